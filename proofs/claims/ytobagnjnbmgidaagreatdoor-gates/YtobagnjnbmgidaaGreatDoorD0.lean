import Derived.Test.YtobagnjnbmgidaaGreatDoorM8
import Derived.Test.YtobagnjnbmgidaaGreatDoorP13
set_option linter.all false
set_option maxHeartbeats 0
set_option maxRecDepth 100000
namespace Go.Proofs.YtobagnjnbmgidaaGreatDoor
open Go.Conc Go.RowKit Go.Extern Tryz
open Go.ConcN (sumTo sumTo_upd)
variable{z:Addr}{ats:Array TypeId}{N c cap j x:Nat}{r:aJ}{α:Type}{C R':aX}{en u v:ay}{vs:iG}
variable{P:aI}{main:Bool}{D:zx}{b:aE}{a:Act}{k:eF}{cs:cW}{w wI w' wS:aj}{ops:b9}{i B B' t κ bg Λ m X ng:Nat}{rest l I:aP}{o:Oper}{f:FuncId}{fn:Func}{K:cF}{Ev:Event->Prop}{Gp:qE}{g g' aaA U:aW}{Ok VG:dw}{st:oX}{es:dL}{M:aX}{Post:qG}
section
variable{Ψ:gi}
theorem uF{r:Operand}{args:Array Operand}{first cap:fW}(e:o.op=.call {callee:=.value r,args,argTypes:=ats})(h:a.eval r=.func (.func f) first cap)(n:P.funcs[f]? =some fn)(d:(fn.name== "runtime.NumGoroutine")=false)(E:fn.body.isNone=false)(w:aj):
 (execOp a.eval o).run P w=.ok (.enter f (first++args.map a.eval++cap)) w/\(execOp a.eval o).events P w #[]=#[]:=by
 have q:¬fn.name= "runtime.NumGoroutine" :=by simpa using d
 have p:¬fn.body=none:=by cases y:fn.body<;>simp_all
 constructor
 .unfold execOp
  simp[e,resolve,Deferred.ofValue,Go.invoke,h,callFunc,n,q,p]
 .unfold execOp
  simp[e,resolve,Deferred.ofValue,Go.invoke,h,callFunc,n,q,p]
theorem aC.AP(F:aC P main D Ψ)(ho:ops[i]? =some o)(y:Region.wanted o (yielded ops a.tmps)=true)(hk:b.kind≠.early){r:Operand}{args:Array Operand}{first cap:fW}(e:o.op=.call {callee:=.value r,args,argTypes:=ats})(n:a.eval r=.func (.func f) first cap)(p:P.funcs[f]? =some fn)(d:(fn.name== "runtime.NumGoroutine")=false)(q:fn.body.isNone=false)(h:Ψ (G (Frame.enter P f (first++args.map a.eval++cap) .normal) (b.at a (.inRegion ops (i::rest)::k)::cs)) w):Ψ (G (b.at a (.inRegion ops (i::rest)::k)) cs) w:=
 F.enter ho y hk (λ_=>(uF e n p d q _).1) (λ_=>(uF e n p d q _).2) h
end
def bot(P:aI):Frame:={(default:aE)with fn:=P.funcs.size,defers:=[],mode:=.panicking [goexitEntry]}
def AY(f:Func):Code:=f.body.getD .skip
def call89(bg bf:Nat):Deferred:={target:=.fn (.func 89) #[.pointer (some ⟨bg,0,none⟩),.pointer (some ⟨bf,0,none⟩)],args:=#[]}
theorem Pq(bg bf:Nat)(w:aj):stepG prog false (born prog (call89 bg bf)) w=.go (G ((baseD 89).at ⟨#[.pointer (some ⟨bg,0,none⟩),.pointer (some ⟨bf,0,none⟩),undef,undef,undef],[]⟩ [.code (AY f89)]) [(bot prog)]) w #[]:=by
 simp[born,call89,stepG,unwind,callDeferred,invoke,callFunc,func89,f89,seen,GStep.after,G,Frame.enter,Frame.at,baseD,bot,AY]
theorem Jj(T:fW):∃n,QuitsD prog n 0 (G {(baseD 89).at ⟨T,[]⟩ []with mode:=.returning} [(bot prog)]):=by
 refine⟨2,QuitsD.ctl (g':=G (bot prog) []) rfl (λw=>?_) ?_⟩
 .simp[G,stepG,unwind,doReturn,results,Frame.at,baseD,bot,func89,f89,seen,GStep.after,goexitEntry]
 refine QuitsD.ctl (g':={G (bot prog) []with status:=.finished}) rfl (λw=>?_) ⟨rfl,rfl⟩;simp[G,stepG,unwind,bot,goexitEntry,Frame.catches]
 rfl
theorem tW{fn:FuncId}{ad:Addr}(d:(P.funcs[fn]?).any (·.norace)=true)(e:(execOp a.eval o).events P w #[]=#[⟨.cell ad,false,false⟩]):listed P fn a o w=#[]:=by
 unfold listed;rw[e,seen_def];simp[seenStep,d]
section
variable{Ψ:kr}{A:Act}
theorem QF.opn(F:QF P main K Ev Ψ)(ho:ops[i]? =some o)(p:Region.wanted o (yielded ops a.tmps)=true)(hk:b.kind≠.early)(hl:∀w,K w->listed P b.fn a o w=#[])(h:∀w,K w->uponK o a (λa' w'=>w'=w/\a'=A) ((execOp a.eval o).run P w))(q:Ψ (G (b.at A (.inRegion ops rest::k)) cs)):Ψ (G (b.at a (.inRegion ops (i::rest)::k)) cs):=by
 refine F.step _ _ rfl (λw n=>⟨#[],?_,λe y=>by simp at y⟩) q;have:=goes_oper_k (P:=P) (main:=main) (k:=k) (cs:=cs) (rest:=rest) (K:=λg' w' es=>g'=G (b.at A (.inRegion ops rest::k)) cs/\w'=w/\es=listed P b.fn a o w) ho p hk (λK' d=>uponK_mono (λa' w' x=>by obtain⟨rfl,rfl⟩:=x;exact d _ _ ⟨rfl,rfl,rfl⟩) (h w n))
 revert this
 cases stepG P main (G (b.at a (.inRegion ops (i::rest)::k)) cs) w<;>intro this
 case go g' w' es=>rw[goes_go]at this;obtain⟨rfl,rfl,rfl⟩:=this;rw[hl _ n]
 all_goals exact this.elim
end
structure UP(A bE bg:Nat)(a:aW):Prop where
 run:a.status=.running
 send:∀W,stepG prog false a W=.comm a #[scase bE (.agg #[]) (.tuple #[])] true .send W #[]
 dp:∀K:World->Prop,(∀W,K W->∃v,W.cell? ⟨A,5,none⟩=some v)->(∀W,K W->W.cell? ⟨bg,0,none⟩=some (.pointer (some ⟨A,5,none⟩)))->∃n,DP prog K (gU A) n 0 (Go.Conc.served a undef)
section
theorem mD{a:Addr}{m:Mode}(f:Fn)(x y:fW):(store a (.func f x y) m).events P w es=storedEv P w es a (.func f x y) m:=events_store P w es a _ m rfl
theorem xS(P:aI)(w:aj)(a:Addr)(m:Mode)(f:Fn)(x y:fW):(store a (.func f x y) m).run P w=stored P w a (.func f x y) m:=run_store P w a _ m rfl
def wK(f:Func):Code:=match f.body with|some (.seq (.block _ (.loop b)) _)=>b|_=>.skip
def FI(f:Func):Code:=match f.body with|some (.seq _ r)=>r|_=>.skip
def wP(A:Nat)(cs:cW)(g:aW):Prop:=∃y1 y2 y3 y4 y5 y6 y7 y8 y9 Df De Dd Dc M1 MZ MY MX MW MV MU MT P4 P2 P1 P0 PZ PY PW PU PT PR PO PN PM:Value,
 g=G ((base 39).at ⟨#[.pointer (some ⟨A,0,none⟩),y1,y2,y3,y4,y5,y6,y7,y8,y9,Df,De,Dd,Dc,M1,MZ,MY,MX,MW,MV,MU,MT,P4,P2,P1,P0,PZ,PY,PW,PU,PT,PR,PO,PN,PM],[]⟩ [.code (wK Tryz.f39),.inLoop (wK Tryz.f39),.inBlock 0,.code (FI Tryz.f39)]) cs
def wR(A:Nat)(cs:cW)(fr:aE):Prop:=∀Φ,CF prog true Φ->(∀g,wP A cs g->Φ g)->Φ (G (fr.finish (.tuple #[])) cs)
def UE(cR:aE)(nG:cW)(fr:aE):Prop:=∀Φ,CF prog true Φ->Φ (G (cR.finish (.tuple #[])) nG)->Φ (G (fr.finish (.tuple #[])) (cR::nG))
variable{Ψ:gi}
theorem Rp(F:aC prog true (DX Ok) Ψ)(N A:Nat)(cs:cW)(t:Int)(f:FuncId)(fn:Func)(fst cp:fW)(es:jg)(en v0:ay)(g:aW)(w0:aj)(OA:wP A cs g)(hf:prog.funcs[f]? =some fn)(SF:(fn.name== "runtime.NumGoroutine")=false)(hb:fn.body.isNone=false)(H:eX N w0 en ((t,.func (.func f) fst cp)::es))(lA:A<N)(hN:N<=w0.heap.size)(J:w0.cell? ⟨A,0,none⟩=some v0)(S:w0.frozen? ⟨A,0,none⟩=false)(y:w0.cell? ⟨A,1,none⟩=some en)(Q:w0.frozen? ⟨A,1,none⟩=false)(o1:Ok ⟨A,1,none⟩ false)(o2:Ok ⟨A,1,none⟩ true)(o3:Ok ⟨A,0,none⟩ true)(Od:∀a:Addr,a.block∈bU en->Ok a false)(p:∀(a:Addr)(wr:Bool),w0.heap.size<=a.block->Ok a wr)(hc:∀fr w1 YH,wR A cs fr->Kp [] w0 w1 [⟨A,0,none⟩,⟨A,1,none⟩]->w1.cell? ⟨A,0,none⟩=some (.int .i64 t)->w1.frozen? ⟨A,0,none⟩=false->w1.cell? ⟨A,1,none⟩=some YH->w1.frozen? ⟨A,1,none⟩=false->eX N w1 YH es->(∀g∈bU YH,g∈bU en)->Ψ (G (Frame.enter prog f (fst++cp) .normal) (fr::cs)) w1):Ψ g w0:=by
 obtain⟨y1,y2,y3,y4,y5,y6,y7,y8,y9,Df,De,Dd,Dc,M1,MZ,MY,MX,MW,MV,MU,MT,P4,P2,P1,P0,PZ,PY,PW,PU,PT,PR,PO,PN,PM,rfl⟩:=OA;rcases eX.some_or H with ⟨_,GJ⟩|⟨E,off,cap',cur,Qo,hle,hNE,DK,ZT,Ca⟩
 .cases GJ
 obtain⟨cap,rfl⟩:∃c,cap'=c+1:=⟨cap'-1,by simp at hle;omega⟩;have On:=H.1;have yD:w0.cell? ⟨E,off,none⟩=some (.int .i64 t):=by have:=Ca 0 _ (by simp[flat];rfl);simp only[World.cell?,DK];simpa using this
 have hE1:w0.cell? ⟨E,off+1,none⟩=some (.func (.func f) fst cp):=by have:=Ca 1 _ (by simp[flat];rfl);simp only[World.cell?,DK];simpa using this
 obtain⟨q,hq⟩:∃q,q=es.length:=⟨_,rfl⟩;have hlen:((t,Value.func (.func f) fst cp)::es).length=q+1:=by simp[hq]
 rw[hlen]at Qo hle;replace hq:q<=es.length/\es.length<=q:=⟨rG hq,rG hq.symm⟩;have e1:∀w,(Instr.sliceAt 100 (.slice (some ⟨E,off,none⟩) (q+1) (cap+1)) (some (.int .i64 1)) none none).events prog w #[]=#[]:=λw=>(me w (L:=1) rfl (by omega) hle).2
 have hEr:∀g,g∈bU en↔g=E:=λg=>by rw[bq,Qo];simp[Value.ownBlock];exact⟨λh=>h.symm,λh=>h.symm⟩
 have n:∀a:Addr,a.block=E->Ok a false:=λa h=>Od a ((hEr _).2 h)
 rw[Qo]at y;have Tw:E<w0.heap.size:=(cH.1 DK).1;have hEA:E≠A:=by omega
 have q1:((0:Int)<(q:Int)+1):=by omega
 have q2:(1:Int)<=(q:Int)+1:=by omega
 have q3:q<=cap:=by omega
 clear hlen H Qo;have WV:=xS;unfold wK;refine F.sq ?_;refine F.cw ?_;iterate 3 (refine F.aF ?_;try walk_nrm)
 refine F.ol rfl rfl rfl λd K h=>?_;go_simp;refine h _ (λe m=>?_) ?_;simp[go_sem, *]at m;subst m;exact jB (w:=w0) (by assumption) (by first|assumption|exact n _ rfl|(apply p<;>dsimp only<;>omega));clear h K d;try walk_nrm
 iterate 2 (refine F.aF ?_;try walk_nrm)
 refine F.re ?_;refine F.ct rfl ?_;refine F.sk ?_;refine F.bl ?_;refine F.cw ?_;iterate 3 (refine F.aF ?_;try walk_nrm)
 refine F.ol rfl rfl rfl λd K h=>?_;go_simp;refine h _ (λe m=>?_) ?_;simp[go_sem, *]at m;subst m;exact jB (w:=w0) (by assumption) (by first|assumption|exact n _ rfl|(apply p<;>dsimp only<;>omega));clear h K d;try walk_nrm
 refine F.aF ?_;try walk_nrm
 refine F.ol rfl rfl rfl λd K hK=>?_
 go_simp;refine hK _ (λe hm=>?_) ?_
 .simp[go_sem, *]at hm
  rcases hm with rfl|rfl<;>exact jB (w:=w0) (by assumption) (by first|assumption|exact n _ rfl|(apply p<;>dsimp only<;>omega))
 clear hK K d;try walk_nrm
 clear yD hE1;refine F.op rfl rfl (by decide) (λd K hK=>?_);go_simp;rw[alloc_at'];refine hK _ _ ⟨DX.alloc _ _ (λe he=>?_),?_⟩
 .have hm:=mem_listed he
  simp[go_sem]at hm
 clear hK K d;try walk_nrm
 generalize Z:World.alloc w0 _=w1;generalize qV:(World.heap w0).size=n1;have Lg:=gr Z qV;replace S:=dG S J Z;replace Q:=dG Q y Z;replace J:=bz J Z;replace y:=bz y Z;have wW:=aV (i:=0) Z qV rfl;have K4:=bY Z qV 0;have pP:=aV (i:=1) Z qV rfl;have K3:=bY Z qV 1;try simp only[rz,rD,rC]at wW pP
 have kp:Kp [] w0 w0 [⟨A,0,none⟩,⟨A,1,none⟩]:=Kp.refl _;replace kp:=kp.zb Z;refine F.op rfl rfl (by decide) (λd K hK=>?_);go_simp
 repeat rw[setCell_at']
 refine hK _ _ ⟨DX.V6 _ (by(first|assumption|exact n _ rfl|(apply p<;>dsimp only<;>omega))) (by(first|assumption|exact n _ rfl|(apply p<;>dsimp only<;>omega))) (λe he=>?_),?_⟩
 .have hm:=mem_listed he
  simp[go_sem,storedEv,ey,fQ,ez,gW,fF,mD, *]at hm;rcases hm with rfl|rfl<;>exact .inl ⟨_,rfl,rfl,by(first|assumption|exact n _ rfl|(apply p<;>dsimp only<;>omega)),by simp only[iE,size_set];first|omega|exact au (by assumption)⟩
 clear hK K d;try walk_nrm
 generalize Y:World.setCell w1 _ _=w2;have P6:=lI Y;replace S:=dV S Y;replace Q:=dV Q Y;replace K4:=dV K4 Y;replace K3:=dV K3 Y;replace J:=dK J Y (by simp<;>omega);replace y:=dK y Y (by simp<;>omega);replace wW:=jC wW Y;replace pP:=dK pP Y (by simp<;>omega);replace kp:=kp.Bv Y (by first|(left;simp;done)|(right;left;simp;done)|(right;right;dsimp only;omega));generalize W:World.setCell w2 _ _=w3;have Q7:=lI W;replace S:=dV S W;replace Q:=dV Q W;replace K4:=dV K4 W;replace K3:=dV K3 W;replace J:=dK J W (by simp<;>omega);replace y:=dK y W (by simp<;>omega);replace wW:=dK wW W (by simp<;>omega);replace pP:=jC pP W;replace kp:=kp.Bv W (by first|(left;simp;done)|(right;left;simp;done)|(right;right;dsimp only;omega));refine F.dh ?_;iterate 4 (refine F.aF ?_;try walk_nrm)
 refine F.ol rfl rfl rfl λd K h=>?_;go_simp;refine h _ (λe m=>?_) ?_;simp[go_sem, *]at m;subst m;exact jB (w:=w3) (by assumption) (by first|assumption|exact n _ rfl|(apply p<;>dsimp only<;>omega));clear h K d;try walk_nrm
 refine F.Ac rfl rfl (by decide) (λ_=>(by first|(simp[go_sem,AN,AM];done)|(simp[go_sem,Instr.makeInterface,Instr.makeFunc];done)|(simp[go_sem, *];done))) (λd K hK=>?_);go_simp;refine hK _ ?_;clear hK K d;try walk_nrm
 iterate 2 (refine F.aF ?_;try walk_nrm)
 refine F.op rfl rfl (by decide) (λd K hK=>?_);go_simp;rw[setCell_at'];refine hK _ _ ⟨DX.set _ (by(first|assumption|exact n _ rfl|(apply p<;>dsimp only<;>omega))) (λe he=>?_),?_⟩
 .have hm:=mem_listed he
  simp[go_sem,storedEv,ey,fQ,ez,gW,fF,mD, *]at hm;subst hm;exact .inl ⟨_,rfl,rfl,by(first|assumption|exact n _ rfl|(apply p<;>dsimp only<;>omega)),by simp only[iE,size_set];first|omega|exact au (by assumption)⟩
 clear hK K d;try walk_nrm
 generalize V:World.setCell w3 _ _=w4;have V0:=lI V;replace S:=dV S V;replace Q:=dV Q V;replace K4:=dV K4 V;replace K3:=dV K3 V;replace J:=dK J V (by simp<;>omega);replace y:=jC y V;replace wW:=dK wW V (by simp<;>omega);replace pP:=dK pP V (by simp<;>omega);replace kp:=kp.Bv V (by first|(left;simp;done)|(right;left;simp;done)|(right;right;dsimp only;omega));refine F.dh ?_;iterate 2 (refine F.aF ?_;try walk_nrm)
 refine F.ol rfl rfl rfl λd K h=>?_;go_simp;refine h _ (λe m=>?_) ?_;simp[go_sem, *]at m;subst m;exact jB (w:=w4) (by assumption) (by first|assumption|exact n _ rfl|(apply p<;>dsimp only<;>omega));clear h K d;try walk_nrm
 iterate 2 (refine F.aF ?_;try walk_nrm)
 refine F.op rfl rfl (by decide) (λd K hK=>?_);go_simp;rw[setCell_at'];refine hK _ _ ⟨DX.set _ (by(first|assumption|exact n _ rfl|(apply p<;>dsimp only<;>omega))) (λe he=>?_),?_⟩
 .have hm:=mem_listed he
  simp[go_sem,storedEv,ey,fQ,ez,gW,fF,mD, *]at hm;subst hm;exact .inl ⟨_,rfl,rfl,by(first|assumption|exact n _ rfl|(apply p<;>dsimp only<;>omega)),by simp only[iE,size_set];first|omega|exact au (by assumption)⟩
 clear hK K d;try walk_nrm
 generalize T:World.setCell w4 _ _=w5;have sz5:=lI T;replace S:=dV S T;replace Q:=dV Q T;replace K4:=dV K4 T;replace K3:=dV K3 T;replace J:=jC J T;replace y:=dK y T (by simp<;>omega);replace wW:=dK wW T (by simp<;>omega);replace pP:=dK pP T (by simp<;>omega);replace kp:=kp.Bv T (by first|(left;simp;done)|(right;left;simp;done)|(right;right;dsimp only;omega));refine F.D3 ?_;refine F.aF ?_;try walk_nrm
 refine F.ol rfl rfl rfl λd K h=>?_;go_simp;refine h _ (λe m=>?_) ?_;simp[go_sem, *]at m;subst m;exact jB (w:=w5) (by assumption) (by first|assumption|exact n _ rfl|(apply p<;>dsimp only<;>omega));clear h K d;try walk_nrm
 refine F.AP rfl rfl (by decide) rfl rfl hf SF hb ?_;try walk_nrm
 simp only[xD,uw,Array.append_empty];have XM:∀g,g∈bU (Value.slice (if cap=0 then some ⟨E,off,none⟩else some ⟨E,off+2,none⟩) q cap)->g=E:=λg hg=>by by_cases wm:cap=0<;>simpa [bU,Value.ownBlock,wm]using hg
 refine hc _ w5 _ ?_ kp J S y Q ?_ (λg hg=>(hEr g).2 (XM g hg))
 .clear F
  intro Φ F ht;rw[bO];try walk_nrm
  refine F.re ?_;refine F.ib ?_;refine F.ctl (λ_=>stepG_inLoop) ?_;exact ht _ ⟨_,_,_,_,_,_,_,_,_,_,_,_,_,_,_,_,_,_,_,_,_,_,_,_,_,_,_,_,_,_,_,_,_,_,rfl⟩
 .have L5:=kp.blk E _ _ _ (by simp) (by simp;exact λz=>hEA z.symm) DK
  refine⟨λe he=>On e (aO _ he),.inr ?_⟩;have hql:q=es.length:=Nat.le_antisymm hq.1 hq.2
  have Wz:∀(j:Nat)(u:ay),(flat es)[j]? =some u->cur[off+2+j]? =some u:=λj u hu=>by
   have:=Ca (j+2) u (by simpa [flat]using hu);rw[show off+2+j=off+(j+2) by omega];exact this
  by_cases wm:cap=0
  .subst wm
   have Cc:q=0:=by omega
   have pQ:es=[]:=Zf (by omega);subst pQ;exact⟨E,off,0,cur,by simp[Cc],by simp,hNE,L5,by omega,λj u hu=>by simp[flat]at hu⟩
  .exact⟨E,off+2,cap,cur,by simp[wm,hql],by omega,hNE,L5,by omega,Wz⟩
theorem Pj(F:aC prog true (DX Ok) Ψ)(A:Nat)(cR:aE)(nG:cW)(b:eN)(cap:Nat)(g:aW)(w0:aj)(n:wP A (cR::nG) g)(Ip:w0.cell? ⟨A,1,none⟩=some (.slice b 0 cap))(o1:Ok ⟨A,1,none⟩ false)(hc:∀p,UE cR nG p->Ψ (G (Frame.enter prog 56 #[.pointer (some ⟨A,5,none⟩)] .normal) (p::cR::nG)) w0):Ψ g w0:=by
 obtain⟨y1,y2,y3,y4,y5,y6,y7,y8,y9,Df,De,Dd,Dc,M1,MZ,MY,MX,MW,MV,MU,MT,Z,Y,W,V,T,S,Q,L,J,H,E,y,q,rfl⟩:=n;unfold wK FI;refine F.sq ?_;refine F.cw ?_;iterate 3 (refine F.aF ?_;try walk_nrm)
 refine F.ol rfl rfl rfl λd K h=>?_;go_simp;refine h _ (λe m=>?_) ?_;simp[go_sem, *]at m;subst m;exact jB (w:=w0) (by assumption) (by first|assumption|exact hrb _ rfl|(apply qg<;>dsimp only<;>omega));clear h K d;try walk_nrm
 iterate 2 (refine F.aF ?_;try walk_nrm)
 refine F.re ?_;refine F.cf rfl ?_;refine F.ctl (λ_=>stepG_exit rfl) ?_;refine F.zW ?_;iterate 3 (refine F.aF ?_;try walk_nrm)
 refine F.enter rfl rfl (by decide) (λ_=>run_call_body rfl func56 (by rfl) (by rfl)) (λ_=>events_call_body rfl func56 (by rfl) (by rfl) _) ?_;walk_nrm;refine hc _ ?_;clear F;intro Φ F ht;rw[bO];try walk_nrm
 refine F.re ?_;refine F.ctl (λ_=>stepG_end) ?_;refine F.bJ rfl rfl func39 (resultsC_none (by rfl) _) ?_;exact ht
end
section
def CQ(A bI bE:Nat)(cs:cW)(g:aW):Prop:=∀kk:Nat,kk<2->∀Φ,CF prog true Φ->(∀g',wP A cs g'->Φ g')->Φ (Go.Conc.served g (commResult (jD bI bE) .select kk (.agg #[]) true))
def Uv(A bI bE:Nat)(cs:cW)(pl:oX)(a:aW):Prop:=∀(K:cF)(Still:dr)(B:Nat)(w:aj),(∀w,K w->∀p∈pl,w.cell? p.1=some p.2)->(∀p∈pl,Still (.cell p.1)/\p.1.block<B)->
 ∃n,Goes prog true (RK K) (DS Still B) (λg _=>∃U,AtIn prog true K Still B (lM bI bE (CQ A bI bE cs)) g U) n a w
def qy(A bI bE:Nat):List (Addr×Value):=[(⟨A,3,none⟩,.chan (some bI)),(⟨A,4,none⟩,.chan (some bE))]
def PI(A bI bE X bg bf:Nat)(cs:cW)(a:aW):Prop:=
 a.status=.running/\∃a',(∀w,stepG prog true a w=.spawn a' (born prog (call89 bg bf)) w #[])/\Uv A bI bE cs ((⟨X,0,none⟩,.pointer (some ⟨A,0,none⟩))::qy A bI bE) a'
def UN(A bI bE aR:Nat)(cs:cW)(a:aW):Prop:=
 a.status=.running/\(∀w,stepG prog true a w=.comm a #[scase aR (.int .i64 1) (.tuple #[])] true .send w #[])/\Uv A bI bE cs (qy A bI bE) (Go.Conc.served a undef)
variable{Ψ:gi}
theorem IU(F:aC prog true (DX Ok) Ψ)(A T bI bE ba Up Uo:Nat)(fa:fW)(fr:aE)(cs:cW)(w0:aj)(GS:wR A cs fr)(L:w0.cell? ⟨ba,0,none⟩=some (.pointer (some ⟨A,0,none⟩)))(p:w0.cell? ⟨Up,0,none⟩=some (.pointer (some ⟨T,0,none⟩)))(n:w0.cell? ⟨Uo,0,none⟩=some (.func (.func 37) #[] fa))(o1:Ok ⟨ba,0,none⟩ false)(o2:Ok ⟨Up,0,none⟩ false)(o3:Ok ⟨Uo,0,none⟩ false)(qg:∀(a:Addr)(wr:Bool),w0.heap.size<=a.block->Ok a wr)(hc:∀c sP w1 X bt bw bg bf,(∀Φ,CF prog true Φ->(∀a,PI A bI bE X bg bf cs a->Φ a)->Φ (G (c.finish (.tuple #[])) sP))->Kp [] w0 w1->(∀b∈[X,bt,bw,bg,bf],w0.heap.size<=b/\b<w1.heap.size)->
 w1.cell? ⟨X,0,none⟩=some (.pointer (some ⟨A,0,none⟩))->w1.cell? ⟨bt,0,none⟩=some (.pointer (some ⟨T,0,none⟩))->w1.cell? ⟨bw,0,none⟩=some (.func (.func 37) #[] fa)->w1.cell? ⟨bg,0,none⟩=some (.pointer (some ⟨A,5,none⟩))->
 w1.cell? ⟨bf,0,none⟩=some (.func (.func 62) #[] #[.pointer (some ⟨bw,0,none⟩),.pointer (some ⟨bt,0,none⟩),.pointer (some ⟨X,0,none⟩)])->Ψ (G (Frame.enter prog 88 #[.pointer (some ⟨A,5,none⟩),.int .i64 1] .normal) (c::sP)) w1):
 Ψ (G (Frame.enter prog 50 (#[]++#[.pointer (some ⟨ba,0,none⟩),.pointer (some ⟨Up,0,none⟩),.pointer (some ⟨Uo,0,none⟩)]) .normal) (fr::cs)) w0:=by
 have WV:=xS;have e0:(#[]:fW)++#[.pointer (some ⟨ba,0,none⟩),.pointer (some ⟨Up,0,none⟩),.pointer (some ⟨Uo,0,none⟩)]=#[.pointer (some ⟨ba,0,none⟩),.pointer (some ⟨Up,0,none⟩),.pointer (some ⟨Uo,0,none⟩)]:=rfl;rw[e0];clear e0;rw[enter_at _ func50 rfl];simp only[ntmps50,oP,Nat.reduceAdd,Nat.reduceSub];refine F.zW ?_;refine F.ol rfl rfl rfl λd K h=>?_;go_simp;refine h _ (λe m=>?_) ?_;simp[go_sem, *]at m;subst m;exact jB (w:=w0) (by assumption) (by first|assumption|(apply qg<;>dsimp only<;>omega));clear h K d;try walk_nrm
 refine F.ol rfl rfl rfl λd K h=>?_;go_simp;refine h _ (λe m=>?_) ?_;simp[go_sem, *]at m;subst m;exact jB (w:=w0) (by assumption) (by first|assumption|(apply qg<;>dsimp only<;>omega));clear h K d;try walk_nrm
 refine F.ol rfl rfl rfl λd K h=>?_;go_simp;refine h _ (λe m=>?_) ?_;simp[go_sem, *]at m;subst m;exact jB (w:=w0) (by assumption) (by first|assumption|(apply qg<;>dsimp only<;>omega));clear h K d;try walk_nrm
 refine F.enter rfl rfl (by decide) (λ_=>run_call_body rfl func51 (by rfl) (by rfl)) (λ_=>events_call_body rfl func51 (by rfl) (by rfl) _) ?_;walk_nrm;rw[enter_at _ func51 rfl];simp only[ntmps51,oP,Nat.reduceAdd,Nat.reduceSub];refine F.cw ?_;refine F.op rfl rfl (by decide) (λd K S=>?_);go_simp;rw[alloc_at'];refine S _ _ ⟨DX.alloc _ _ (λe Z=>?_),?_⟩
 .have hm:=mem_listed Z
  simp[go_sem]at hm
 clear S K d;try walk_nrm
 generalize Y:World.alloc w0 _=w1;generalize qV:(World.heap w0).size=n1;have Lg:=gr Y qV;replace L:=bz L Y;replace p:=bz p Y;replace n:=bz n Y;have y:=aV (i:=0) Y qV rfl;have V:=bY Y qV 0;try simp only[rz,rD,rC]at y
 have kp:Kp [] w0 w0 []:=Kp.refl _;replace kp:=kp.zb Y;refine F.op rfl rfl (by decide) (λd K S=>?_);go_simp;rw[alloc_at'];refine S _ _ ⟨DX.alloc _ _ (λe Z=>?_),?_⟩
 .have hm:=mem_listed Z
  simp[go_sem]at hm
 clear S K d;try walk_nrm
 generalize Q:World.alloc w1 _=w2;generalize Ce:(World.heap w1).size=n2;have P6:=gr Q Ce;replace V:=dG V y Q;replace L:=bz L Q;replace p:=bz p Q;replace n:=bz n Q;replace y:=bz y Q;have H:=aV (i:=0) Q Ce rfl;have dw:=bY Q Ce 0;try simp only[rz,rD,rC]at H
 replace kp:=kp.zb Q;refine F.op rfl rfl (by decide) (λd K S=>?_);go_simp;rw[alloc_at'];refine S _ _ ⟨DX.alloc _ _ (λe Z=>?_),?_⟩
 .have hm:=mem_listed Z
  simp[go_sem]at hm
 clear S K d;try walk_nrm
 generalize J:World.alloc w2 _=w3;generalize Qk:(World.heap w2).size=n3;have Q7:=gr J Qk;replace V:=dG V y J;replace dw:=dG dw H J;replace L:=bz L J;replace p:=bz p J;replace n:=bz n J;replace y:=bz y J;replace H:=bz H J;have W:=aV (i:=0) J Qk rfl;have UW:=bY J Qk 0;try simp only[rz,rD,rC]at W
 replace kp:=kp.zb J;refine F.dh ?_;refine F.ol rfl rfl rfl λd K h=>?_;go_simp;refine h _ (λe m=>?_) ?_;simp[go_sem, *]at m;subst m;exact jB (w:=w3) (by assumption) (by first|assumption|(apply qg<;>dsimp only<;>omega));clear h K d;try walk_nrm
 iterate 3 (refine F.aF ?_;try walk_nrm)
 refine F.enter rfl rfl (by decide) (λ_=>run_call_body rfl func61 (by rfl) (by rfl)) (λ_=>events_call_body rfl func61 (by rfl) (by rfl) _) ?_;walk_nrm;rw[enter_at _ func61 rfl];simp only[ntmps61,oP,Nat.reduceAdd,Nat.reduceSub];refine F.cw ?_;refine F.op rfl rfl (by decide) (λd K S=>?_);go_simp;rw[alloc_at'];refine S _ _ ⟨DX.alloc _ _ (λe Z=>?_),?_⟩
 .have hm:=mem_listed Z
  simp[go_sem]at hm
 clear S K d;try walk_nrm
 generalize E:World.alloc w3 _=w4;generalize Xp:(World.heap w3).size=n4;have V0:=gr E Xp;replace V:=dG V y E;replace dw:=dG dw H E;replace UW:=dG UW W E;replace L:=bz L E;replace p:=bz p E;replace n:=bz n E;replace y:=bz y E;replace H:=bz H E;replace W:=bz W E;have GR:=aV (i:=0) E Xp rfl;have Zi:=bY E Xp 0;try simp only[rz,rD,rC]at GR
 replace kp:=kp.zb E;refine F.op rfl rfl (by decide) (λd K S=>?_);go_simp;rw[alloc_at'];refine S _ _ ⟨DX.alloc _ _ (λe Z=>?_),?_⟩
 .have hm:=mem_listed Z
  simp[go_sem]at hm
 clear S K d;try walk_nrm
 generalize q:World.alloc w4 _=w5;generalize Xo:(World.heap w4).size=n5;have sz5:=gr q Xo;replace V:=dG V y q;replace dw:=dG dw H q;replace UW:=dG UW W q;replace Zi:=dG Zi GR q;replace L:=bz L q;replace p:=bz p q;replace n:=bz n q;replace y:=bz y q;replace H:=bz H q;replace W:=bz W q;replace GR:=bz GR q;have Vm:=aV (i:=0) q Xo rfl;have zfn:=bY q Xo 0;try simp only[rz,rD,rC]at Vm
 replace kp:=kp.zb q;refine F.dh ?_;refine F.ol rfl rfl rfl λd K h=>?_;go_simp;refine h _ (λe m=>?_) ?_;simp[go_sem, *]at m;subst m;exact jB (w:=w5) (by assumption) (by first|assumption|(apply qg<;>dsimp only<;>omega));clear h K d;try walk_nrm
 refine F.enter rfl rfl (by decide) (λ_=>run_call_body rfl func88 (by rfl) (by rfl)) (λ_=>events_call_body rfl func88 (by rfl) (by rfl) _) ?_;walk_nrm;refine hc _ _ w5 n1 n2 n3 n4 n5 ?_ kp (by intro b hb;simp at hb;rcases hb with rfl|rfl|rfl|rfl|rfl<;>omega) y H W GR Vm;clear F;intro Φ F ht;rw[bO];try walk_nrm
 refine F.D3 ?_;refine F.aF ?_;try walk_nrm
 refine ht _ ⟨rfl,?_⟩
 apply Exists.intro
 constructor
 .intro w
  rw[stepG_spawn (d:=call89 n4 n5) (f:=.func 89) (c:=#[.pointer (some ⟨n4,0,none⟩),.pointer (some ⟨n5,0,none⟩)]) (w':=w) rfl rfl (by decide) (by simp[execOp,call89,resolve,Deferred.ofValue,Act.eval]) rfl];rw[listed_nil (by simp[execOp,resolve,Deferred.ofValue,Act.eval])]
 .intro K Still B w S hS
  clear F;have F:=qL (P:=prog) (K:=K) (Still:=Still) (B:=B) true (lM bI bE (CQ A bI bE cs)) w;have fX:∀w,K w->w.cell? ⟨n1,0,none⟩=some (.pointer (some ⟨A,0,none⟩)):=λw h=>S w h (⟨n1,0,none⟩,_) (by simp)
  have f3:∀w,K w->w.cell? ⟨A,3,none⟩=some (.chan (some bI)):=λw h=>S w h (⟨A,3,none⟩,_) (by simp[qy])
  have f4:∀w,K w->w.cell? ⟨A,4,none⟩=some (.chan (some bE)):=λw h=>S w h (⟨A,4,none⟩,_) (by simp[qy])
  have sX:=hS (⟨n1,0,none⟩,.pointer (some ⟨A,0,none⟩)) (by simp);have s3:=hS (⟨A,3,none⟩,.chan (some bI)) (by simp[qy]);have s4:=hS (⟨A,4,none⟩,.chan (some bE)) (by simp[qy]);try walk_nrm
  refine F.re ?_;refine F.ctl (λ_=>stepG_end) ?_;refine F.bJ rfl rfl func61 (resultsC_none (by rfl) _) ?_;rw[bO];try walk_nrm
  refine F.D3 ?_
  apply F.op rfl rfl (by decide)
  .intro w hw e Z
   have LW:=fX w hw;simp[go_sem,LW]at Z;subst Z;exact⟨_,rfl,sX.1,sX.2⟩
  .intro w hw
   have LW:=fX w hw;go_simp
   first|exact⟨rfl,rfl⟩|exact rfl
  try walk_nrm
  refine F.enter rfl rfl (by decide) (λ_=>run_call_body rfl func63 (by rfl) (by rfl)) (λ_=>events_call_body rfl func63 (by rfl) (by rfl) _) ?_;walk_nrm;refine K5 A bI bE f3 f4 s3.1 s4.1 s3.2 _ _ (λg hg kk GN Φ F ht=>hg kk GN Φ F ?_) _;rw[bO];try walk_nrm
  refine F.re ?_;refine F.ctl (λ_=>stepG_end) ?_;refine F.bJ rfl rfl func51 (resultsC_none (by rfl) _) ?_;rw[bO];try walk_nrm
  refine F.re ?_;refine F.ctl (λ_=>stepG_end) ?_;refine F.bJ rfl rfl func50 (resultsC_none (by rfl) _) ?_;exact GS Φ F ht
theorem M9(F:aC prog true (DX Ok) Ψ)(A T x bI bE aR:Nat)(fr:aE)(cs:cW)(w0:aj)(GS:wR A cs fr)(hX0:w0.cell? ⟨x,0,none⟩=some (.pointer (some ⟨T,0,none⟩)))(Yb:w0.cell? ⟨x,1,none⟩=some (.int .i64 0))(Zj:w0.frozen? ⟨x,1,none⟩=false)(Vv:w0.cell? ⟨T,0,none⟩=some (.pointer (some ⟨A,0,none⟩)))(Vu:w0.cell? ⟨T,3,none⟩=some (.chan (some aR)))(o1:Ok ⟨x,0,none⟩ false)(o2:Ok ⟨x,1,none⟩ false)(o3:Ok ⟨x,1,none⟩ true)(o4:Ok ⟨T,0,none⟩ false)(o5:Ok ⟨T,3,none⟩ false)(ZE:x≠T)(hc:∀a w1,UN A bI bE aR cs a->Kp [] w0 w1 [⟨x,1,none⟩]->Ψ a w1):
 Ψ (G (Frame.enter prog 144 (#[.pointer (some ⟨x,0,none⟩)]++#[]) .normal) (fr::cs)) w0:=by
 have Ii:((0:Int)==0)=true:=rfl;have lx:x<w0.heap.size:=au Yb;rw[Array.append_empty];rw[enter_at _ func144 rfl];simp only[ntmps144,oP,Nat.reduceAdd,Nat.reduceSub];refine F.cw ?_;iterate 3 (refine F.aF ?_;try walk_nrm)
 refine F.ol rfl rfl rfl λd K h=>?_;go_simp;refine h _ (λe m=>?_) ?_;simp[go_sem, *]at m;subst m;exact jB (w:=w0) (by assumption) (by first|assumption|(apply qg<;>dsimp only<;>omega));clear h K d;try walk_nrm
 refine F.aF ?_;try walk_nrm
 refine F.re ?_;refine F.ct rfl ?_;refine F.cw ?_;iterate 3 (refine F.aF ?_;try walk_nrm)
 refine F.op rfl rfl (by decide) (λd K hK=>?_);go_simp;rw[setCell_at'];refine hK _ _ ⟨DX.set _ (by(first|assumption|(apply qg<;>dsimp only<;>omega))) (λe he=>?_),?_⟩
 .have hm:=mem_listed he
  simp[go_sem,storedEv,ey,fQ,ez,gW,fF,mD, *]at hm;subst hm;exact .inl ⟨_,rfl,rfl,by(first|assumption|(apply qg<;>dsimp only<;>omega)),by simp only[iE,size_set];first|omega|exact au (by assumption)⟩
 clear hK K d;try walk_nrm
 generalize O9:World.setCell w0 _ _=w1;have Lg:=lI O9;replace Zj:=dV Zj O9;replace hX0:=dK hX0 O9 (by simp<;>omega);replace Yb:=jC Yb O9;replace Vv:=dK Vv O9 (by simp<;>omega);replace Vu:=dK Vu O9 (by simp<;>omega);have kp:Kp [] w0 w0 [⟨x,1,none⟩]:=Kp.refl _;replace kp:=kp.Bv O9 (by first|(left;simp;done)|(right;left;simp;done)|(right;right;dsimp only;omega));refine F.D3 ?_;iterate 3 (refine F.aF ?_;try walk_nrm)
 refine F.ol rfl rfl rfl λd K h=>?_;go_simp;refine h _ (λe m=>?_) ?_;simp[go_sem, *]at m;subst m;exact jB (w:=w1) (by assumption) (by first|assumption|(apply qg<;>dsimp only<;>omega));clear h K d;try walk_nrm
 iterate 2 (refine F.aF ?_;try walk_nrm)
 refine F.ol rfl rfl rfl λd K h=>?_;go_simp;refine h _ (λe m=>?_) ?_;simp[go_sem, *]at m;subst m;exact jB (w:=w1) (by assumption) (by first|assumption|(apply qg<;>dsimp only<;>omega));clear h K d;try walk_nrm
 refine F.aF ?_;try walk_nrm
 refine F.enter rfl rfl (by decide) (λ_=>run_call_body rfl func155 (by rfl) (by rfl)) (λ_=>events_call_body rfl func155 (by rfl) (by rfl) _) ?_;walk_nrm;rw[enter_at _ func155 rfl];simp only[ntmps155,oP,Nat.reduceAdd,Nat.reduceSub];refine F.sq ?_;refine F.yT (γ:=Unit) (n:=12) mixed [[],[0],[1],[2],[3],[4],[5],[],[7],[8],[9],[6,10]] rfl (by kernel_rfl) (λb g=>[(4,dD (b 0) (.pointer (some ⟨x,0,none⟩)) (undef)),(5,dD (b 1) (.pointer (some ⟨x,0,none⟩)) (undef)),(6,dD (b 2) (.pointer (some ⟨x,0,none⟩)) (undef)),(7,dD (b 3) (.pointer (some ⟨T,0,none⟩)) (undef)),(8,dD (b 4) (.pointer (some ⟨T,0,none⟩)) (undef)),(9,dD (b 5) (.pointer (some ⟨T,3,none⟩)) (undef)),(10,dD (b 6) (.chan (some aR)) (undef)),(11,dD (b 7) (.pointer (some ⟨x,0,none⟩)) (undef)),(12,dD (b 8) (.pointer (some ⟨x,0,none⟩)) (undef)),(13,dD (b 9) (.pointer (some ⟨x,1,none⟩)) (undef)),(14,dD (b 10) (.int .i64 1) (undef))]) (λb g w=>(b 11=false->w=w1)/\(b 11=true->(False))) (()) (by simp only[pu,Nat.reduceAdd,Nat.reduceEqDiff,reduceIte]) (⟨λ_=>rfl,λh=>by cases h⟩) (all_cons ?_ (all_cons ?_ (all_cons ?_ (all_cons ?_ (all_cons ?_ (all_cons ?_ (all_cons ?_ (all_cons ?_ (all_cons ?_ (all_cons ?_ (all_cons ?_ (all_cons ?_ (all_nil))))))))))))) ?_
 .intro b g w Z y q Q rest Y J
  obtain⟨H,W⟩:=Z;replace q:b 0=false:=q;have RB:=dz (y 1 0 rfl) q;have yj:=dz (y 2 1 rfl) RB;have jZ:=dz (y 3 2 rfl) yj;have gl:=dz (y 4 3 rfl) jZ;have tV:=dz (y 5 4 rfl) gl;have qz:=dz (y 6 5 rfl) tV;have p:=dz (y 11 6 rfl) qz;have L:=(H p).symm;subst L;simp only[RB,yj,jZ,gl,tV,qz,p,q,pu,Nat.reduceAdd,Nat.reduceEqDiff,reduceIte];refine F.aF ?_;try walk_nrm
  have E:=J g _ ⟨λ_=>rfl,λh=>no p h⟩;simp only[RB,yj,jZ,gl,tV,qz,p,q,pu,Nat.reduceAdd,Nat.reduceEqDiff,reduceIte]at E;exact E
 .intro b g w Z y q Q rest Y J
  obtain⟨H,W⟩:=Z;replace q:b 1=false:=q;have d0:=Q 0 rfl;have yj:=dz (y 2 1 rfl) q;have jZ:=dz (y 3 2 rfl) yj;have gl:=dz (y 4 3 rfl) jZ;have tV:=dz (y 5 4 rfl) gl;have qz:=dz (y 6 5 rfl) tV;have p:=dz (y 11 6 rfl) qz;have L:=(H p).symm;subst L;simp only[d0,yj,jZ,gl,tV,qz,p,q,pu,Nat.reduceAdd,Nat.reduceEqDiff,reduceIte];refine F.aF ?_;try walk_nrm
  have E:=J g _ ⟨λ_=>rfl,λh=>no p h⟩;simp only[d0,yj,jZ,gl,tV,qz,p,q,pu,Nat.reduceAdd,Nat.reduceEqDiff,reduceIte]at E;exact E
 .intro b g w Z y q Q rest Y J
  obtain⟨H,W⟩:=Z;replace q:b 2=false:=q;have d1:=Q 1 rfl;have jZ:=dz (y 3 2 rfl) q;have gl:=dz (y 4 3 rfl) jZ;have tV:=dz (y 5 4 rfl) gl;have qz:=dz (y 6 5 rfl) tV;have p:=dz (y 11 6 rfl) qz;have L:=(H p).symm;subst L;simp only[d1,jZ,gl,tV,qz,p,q,pu,Nat.reduceAdd,Nat.reduceEqDiff,reduceIte];refine F.aF ?_;try walk_nrm
  have E:=J g _ ⟨λ_=>rfl,λh=>no p h⟩;simp only[d1,jZ,gl,tV,qz,p,q,pu,Nat.reduceAdd,Nat.reduceEqDiff,reduceIte]at E;exact E
 .intro b g w Z y q Q rest Y J
  obtain⟨H,W⟩:=Z;replace q:b 3=false:=q;have d2:=Q 2 rfl;have gl:=dz (y 4 3 rfl) q;have tV:=dz (y 5 4 rfl) gl;have qz:=dz (y 6 5 rfl) tV;have p:=dz (y 11 6 rfl) qz;have L:=(H p).symm;subst L;simp only[d2,gl,tV,qz,p,q,pu,Nat.reduceAdd,Nat.reduceEqDiff,reduceIte];refine F.ol rfl rfl rfl λd K h=>?_;go_simp;refine h _ (λe m=>?_) ?_;simp[go_sem, *]at m;subst m;exact jB (w:=w1) (by assumption) (by first|assumption|(apply qg<;>dsimp only<;>omega));clear h K d;try walk_nrm
  have E:=J g _ ⟨λ_=>rfl,λh=>no p h⟩;simp only[d2,gl,tV,qz,p,q,pu,Nat.reduceAdd,Nat.reduceEqDiff,reduceIte]at E;exact E
 .intro b g w Z y q Q rest Y J
  obtain⟨H,W⟩:=Z;replace q:b 4=false:=q;have d3:=Q 3 rfl;have tV:=dz (y 5 4 rfl) q;have qz:=dz (y 6 5 rfl) tV;have p:=dz (y 11 6 rfl) qz;have L:=(H p).symm;subst L;simp only[d3,tV,qz,p,q,pu,Nat.reduceAdd,Nat.reduceEqDiff,reduceIte];refine F.aF ?_;try walk_nrm
  have E:=J g _ ⟨λ_=>rfl,λh=>no p h⟩;simp only[d3,tV,qz,p,q,pu,Nat.reduceAdd,Nat.reduceEqDiff,reduceIte]at E;exact E
 .intro b g w Z y q Q rest Y J
  obtain⟨H,W⟩:=Z;replace q:b 5=false:=q;have d4:=Q 4 rfl;have qz:=dz (y 6 5 rfl) q;have p:=dz (y 11 6 rfl) qz;have L:=(H p).symm;subst L;simp only[d4,qz,p,q,pu,Nat.reduceAdd,Nat.reduceEqDiff,reduceIte];refine F.aF ?_;try walk_nrm
  have E:=J g _ ⟨λ_=>rfl,λh=>no p h⟩;simp only[d4,qz,p,q,pu,Nat.reduceAdd,Nat.reduceEqDiff,reduceIte]at E;exact E
 .intro b g w Z y q Q rest Y J
  obtain⟨H,W⟩:=Z;replace q:b 6=false:=q;have d5:=Q 5 rfl;have p:=dz (y 11 6 rfl) q;have L:=(H p).symm;subst L;simp only[d5,p,q,pu,Nat.reduceAdd,Nat.reduceEqDiff,reduceIte];refine F.ol rfl rfl rfl λd K h=>?_;go_simp;refine h _ (λe m=>?_) ?_;simp[go_sem, *]at m;subst m;exact jB (w:=w1) (by assumption) (by first|assumption|(apply qg<;>dsimp only<;>omega));clear h K d;try walk_nrm
  have E:=J g _ ⟨λ_=>rfl,λh=>no p h⟩;simp only[d5,p,q,pu,Nat.reduceAdd,Nat.reduceEqDiff,reduceIte]at E;exact E
 .intro b g w Z y q Q rest Y J
  obtain⟨H,W⟩:=Z;replace q:b 7=false:=q;have dB:=dz (y 8 7 rfl) q;have Dx:=dz (y 9 8 rfl) dB;have V:=dz (y 10 9 rfl) Dx;have p:=dz (y 11 10 rfl) V;have L:=(H p).symm;subst L;simp only[dB,Dx,V,p,q,pu,Nat.reduceAdd,Nat.reduceEqDiff,reduceIte];refine F.aF ?_;try walk_nrm
  have E:=J g _ ⟨λ_=>rfl,λh=>no p h⟩;simp only[dB,Dx,V,p,q,pu,Nat.reduceAdd,Nat.reduceEqDiff,reduceIte]at E;exact E
 .intro b g w Z y q Q rest Y J
  obtain⟨H,W⟩:=Z;replace q:b 8=false:=q;have d7:=Q 7 rfl;have Dx:=dz (y 9 8 rfl) q;have V:=dz (y 10 9 rfl) Dx;have p:=dz (y 11 10 rfl) V;have L:=(H p).symm;subst L;simp only[d7,Dx,V,p,q,pu,Nat.reduceAdd,Nat.reduceEqDiff,reduceIte];refine F.aF ?_;try walk_nrm
  have E:=J g _ ⟨λ_=>rfl,λh=>no p h⟩;simp only[d7,Dx,V,p,q,pu,Nat.reduceAdd,Nat.reduceEqDiff,reduceIte]at E;exact E
 .intro b g w Z y q Q rest Y J
  obtain⟨H,W⟩:=Z;replace q:b 9=false:=q;have d8:=Q 8 rfl;have V:=dz (y 10 9 rfl) q;have p:=dz (y 11 10 rfl) V;have L:=(H p).symm;subst L;simp only[d8,V,p,q,pu,Nat.reduceAdd,Nat.reduceEqDiff,reduceIte];refine F.aF ?_;try walk_nrm
  have E:=J g _ ⟨λ_=>rfl,λh=>no p h⟩;simp only[d8,V,p,q,pu,Nat.reduceAdd,Nat.reduceEqDiff,reduceIte]at E;exact E
 .intro b g w Z y q Q rest Y J
  obtain⟨H,W⟩:=Z;replace q:b 10=false:=q;have d9:=Q 9 rfl;have p:=dz (y 11 10 rfl) q;have L:=(H p).symm;subst L;simp only[d9,p,q,pu,Nat.reduceAdd,Nat.reduceEqDiff,reduceIte];refine F.ol rfl rfl rfl λd K h=>?_;go_simp;refine h _ (λe m=>?_) ?_;simp[go_sem, *]at m;subst m;exact jB (w:=w1) (by assumption) (by first|assumption|(apply qg<;>dsimp only<;>omega));clear h K d;try walk_nrm
  have E:=J g _ ⟨λ_=>rfl,λh=>no p h⟩;simp only[d9,p,q,pu,Nat.reduceAdd,Nat.reduceEqDiff,reduceIte]at E;exact E
 .intro b g w Z y q Q rest Y J
  obtain⟨H,W⟩:=Z;replace q:b 11=false:=q;have d6:=Q 6 rfl;have d10:=Q 10 rfl;have d9:=y 10 9 rfl d10;have d8:=y 9 8 rfl d9;have d7:=y 8 7 rfl d8;have d5:=y 6 5 rfl d6;have d4:=y 5 4 rfl d5;have d3:=y 4 3 rfl d4;have d2:=y 3 2 rfl d3;have d1:=y 2 1 rfl d2;have d0:=y 1 0 rfl d1;have L:=(H q).symm;subst L;simp only[d6,d10,d9,d8,d7,d5,d4,d3,d2,d1,d0,q,pu,Nat.reduceAdd,Nat.reduceEqDiff,reduceIte]
  have So:rest=[]:=Y (by
   intro j hj Xx
   match j,hj,Xx with
   |0,_,_=>exact d0
   |1,_,_=>exact d1
   |2,_,_=>exact d2
   |3,_,_=>exact d3
   |4,_,_=>exact d4
   |5,_,_=>exact d5
   |6,_,_=>exact d6
   |7,_,_=>exact d7
   |8,_,_=>exact d8
   |9,_,_=>exact d9
   |10,_,_=>exact d10
   |11,_,h=>exact absurd rfl h
   |j+12,h,_=>omega)
  subst So;refine hc _ w1 ⟨rfl,λw=>?_,λK Still B w hK hS=>?_⟩ kp
  .rw[stepG_comm (cases:=#[scase aR (.int .i64 1) (.tuple #[])]) (blocking:=true) (shape:=.send) (w':=w) rfl rfl (by decide) (by simp[execOp,scase,Act.eval])]
   rw[listed_nil (by simp[go_sem,execOp,Act.eval])]
  .clear F
   have F:=qL (P:=prog) (K:=K) (Still:=Still) (B:=B) true (lM bI bE (CQ A bI bE cs)) w;have f3:∀w,K w->w.cell? ⟨A,3,none⟩=some (.chan (some bI)):=λw h=>hK w h (⟨A,3,none⟩,_) (by simp[qy])
   have f4:∀w,K w->w.cell? ⟨A,4,none⟩=some (.chan (some bE)):=λw h=>hK w h (⟨A,4,none⟩,_) (by simp[qy])
   have s3:=hS (⟨A,3,none⟩,.chan (some bI)) (by simp[qy]);have s4:=hS (⟨A,4,none⟩,.chan (some bE)) (by simp[qy]);rw[served_fr,bO];try walk_nrm
   refine F.D3 ?_
   apply F.Ac rfl rfl (by decide)
   .intro w hw
    simp[go_sem]
   .intro w hw
    go_simp
    first|exact⟨rfl,rfl⟩|exact rfl
   try walk_nrm
   refine F.enter rfl rfl (by decide) (λ_=>run_call_body rfl func63 (by rfl) (by rfl)) (λ_=>events_call_body rfl func63 (by rfl) (by rfl) _) ?_;walk_nrm;refine K5 A bI bE f3 f4 s3.1 s4.1 s3.2 _ _ (λg hg kk J Φ F ht=>hg kk J Φ F ?_) _;rw[bO];try walk_nrm
   refine F.re ?_;refine F.ctl (λ_=>stepG_end) ?_;refine F.bJ rfl rfl func155 (resultsC_none (by rfl) _) ?_;rw[bO];try walk_nrm
   refine F.re ?_;refine F.ctl (λ_=>stepG_end) ?_;refine F.bJ rfl rfl func144 (resultsC_none (by rfl) _) ?_;exact GS Φ F ht
 intro b g w Z S;obtain⟨H,W⟩:=Z;simp only[S 0 (by decide),S 1 (by decide),S 2 (by decide),S 3 (by decide),S 4 (by decide),S 5 (by decide),S 6 (by decide),S 7 (by decide),S 8 (by decide),S 9 (by decide),S 10 (by decide),S 11 (by decide),pu,Nat.reduceAdd,Nat.reduceEqDiff,reduceIte];exact(W (S 11 (by decide))).elim
end
def UL(c:aE)(cs:cW)(g:aW):Prop:=∀Φ,CF prog false Φ->Φ (G (c.finish (.int .i64 1)) cs)->Φ (Go.Conc.served g (.int .i64 1))
def lK(aR:Nat)(c:aE)(cs:cW):Seat:=Seat.one aR (.int .i64 0) false (UL c cs)
theorem mg{aR d:Nat}{c:aE}(h:(lK aR c cs).has d):d=aR:=Seat.one_has.1 h
def Y4(T aR x:Nat)(c:aE)(cs:cW)(a:aW):Prop:=∀(K:cF)(Still:dr)(B:Nat)(w:aj),(∀w,K w->w.cell? ⟨x,0,none⟩=some (.pointer (some ⟨T,0,none⟩))/\w.cell? ⟨T,3,none⟩=some (.chan (some aR)))->(Still (.cell ⟨x,0,none⟩)/\x<B)->(Still (.cell ⟨T,3,none⟩)/\T<B)->
 ∃n,Goes prog false (RK K) (DS Still B) (λg _=>∃U,AtIn prog false K Still B (lK aR c cs) g U) n a w
def UM(bI T aR x:Nat)(c:aE)(cs:cW)(a:aW):Prop:=
 a.status=.running/\(∀w,stepG prog false a w=.comm a #[scase bI (.agg #[]) (.tuple #[])] true .send w #[])/\Y4 T aR x c cs (Go.Conc.served a undef)
theorem Hy{Ψ:gi}(F:aC prog false (DX Ok) Ψ)(A T bI aR x:Nat)(c:aE)(cs:cW)(w0:aj)(Q:w0.cell? ⟨x,0,none⟩=some (.pointer (some ⟨T,0,none⟩)))(S:w0.cell? ⟨T,0,none⟩=some (.pointer (some ⟨A,0,none⟩)))(W:w0.cell? ⟨A,3,none⟩=some (.chan (some bI)))(o1:Ok ⟨x,0,none⟩ false)(o2:Ok ⟨T,0,none⟩ false)(Z:Ok ⟨A,3,none⟩ false)(hc:∀a,UM bI T aR x c cs a->Ψ a w0):Ψ (G (Frame.enter prog 153 #[.pointer (some ⟨x,0,none⟩)] .normal) (c::cs)) w0:=by
 rw[enter_at _ func153 rfl];simp only[ntmps153,oP,Nat.reduceAdd,Nat.reduceSub];refine F.cw ?_;refine F.aF ?_;try walk_nrm
 refine F.dh ?_;iterate 3 (refine F.aF ?_;try walk_nrm)
 refine F.ol rfl rfl rfl λd K h=>?_;go_simp;refine h _ (λe m=>?_) ?_;simp[go_sem, *]at m;subst m;exact jB (w:=w0) (by assumption) (by first|assumption|(apply q<;>dsimp only<;>omega));clear h K d;try walk_nrm
 iterate 2 (refine F.aF ?_;try walk_nrm)
 refine F.ol rfl rfl rfl λd K h=>?_;go_simp;refine h _ (λe m=>?_) ?_;simp[go_sem, *]at m;subst m;exact jB (w:=w0) (by assumption) (by first|assumption|(apply q<;>dsimp only<;>omega));clear h K d;try walk_nrm
 iterate 2 (refine F.aF ?_;try walk_nrm)
 refine F.ol rfl rfl rfl λd K h=>?_;go_simp;refine h _ (λe m=>?_) ?_;simp[go_sem, *]at m;subst m;exact jB (w:=w0) (by assumption) (by first|assumption|(apply q<;>dsimp only<;>omega));clear h K d;try walk_nrm
 refine F.aF ?_;try walk_nrm
 refine hc _ ⟨rfl,λw=>?_,λK Still B w L H J=>?_⟩
 .rw[stepG_comm (cases:=#[scase bI (.agg #[]) (.tuple #[])]) (blocking:=true) (shape:=.send) (w':=w) rfl rfl (by decide) (by simp[execOp,scase,Act.eval])]
  rw[listed_nil (by simp[go_sem,execOp,Act.eval])]
 clear F;have F:=qL (P:=prog) (K:=K) (Still:=Still) (B:=B) false (lK aR c cs) w;rw[served_fr,bO];try walk_nrm
 have f0:=λw h=>(L w h).1
 have f3:=λw h=>(L w h).2
 refine F.dh ?_;iterate 3 (refine F.aF ?_;try walk_nrm)
 apply F.op rfl rfl (by decide)
 .intro w p e y
  have n:=f0 w p;simp[go_sem,n]at y;subst y;exact⟨_,rfl,H.1,H.2⟩
 .intro w p
  have n:=f0 w p;go_simp
  first|exact⟨rfl,rfl⟩|exact rfl
 try walk_nrm
 iterate 2 (refine F.aF ?_;try walk_nrm)
 apply F.op rfl rfl (by decide)
 .intro w p e y
  have n:=f3 w p;simp[go_sem,n]at y;subst y;exact⟨_,rfl,J.1,J.2⟩
 .intro w p
  have n:=f3 w p;go_simp
  first|exact⟨rfl,rfl⟩|exact rfl
 try walk_nrm
 refine⟨0,λE r=>⟨_,rfl,rfl,rfl,rfl,?_,#[],by simp,λw p=>?_⟩⟩
 .clear F
  intro Y F V;rw[served_fr,bO];try walk_nrm
  refine F.aF ?_;try walk_nrm
  refine F.re ?_;refine F.ctl (λ_=>stepG_ret') ?_;refine F.bJ rfl rfl func153 (resultsC_tmp (by rfl) _) ?_;exact V
 .rw[stepG_comm (cases:=#[rcase aR (.int .i64 0)]) (blocking:=true) (shape:=.recv false) (w':=w) rfl rfl (by decide) (by simp[go_sem,rcase])]
  rw[listed_nil (by simp[go_sem])]
  rfl
theorem Kp.chan{k y:Nat}{buf:fW}{cl n:Bool}(hc:w.heap[c]? =some (.chan 0 #[] false k k false)):Kp [] w (w.setChan c cap buf cl x y n):=by
 have d:∀(a:Addr)(v:ay),w.cell? a=some v->c≠a.block:=λa v h e=>by subst e;simp[World.cell?,hc]at h
 exact⟨rG (by simp[World.setChan]),λa v _ _ h=>((iL (d a v h) ..).1).trans h,λa v _ _ h=>(iL (d a v h) ..).2,λb p t f _ _ h=>by
  by_cases e:c=b
  .subst e;rw[hc]at h;cases h
  .rw[heap_setChan_ne w _ _ _ _ _ _ e];exact h⟩
theorem Dn{o:Obj}{k:Nat}:mH z v o=.chan cap #[] false k k false↔o=.chan cap #[] false k k false:=by
 cases o<;>simp[mH]
theorem oI{k:Nat}:(w.setCell z v).heap[c]? =some (.chan cap #[] false k k false)↔w.heap[c]? =some (.chan cap #[] false k k false):=by
 rw[heap_set]
 split
 .cases w.heap[c]? with
  |none=>simp
  |some o=>simp[Dn]
 .exact Iff.rfl
theorem wJ(h:z.spot=none):(∃u,(w.setCell z v).cell? z=some u)↔∃u,w.cell? z=some u:=by
 constructor
 .rintro ⟨u,d⟩
  unfold World.cell? at d;rw[heap_set,ah rfl]at d;unfold World.cell?;cases e:w.heap[z.block]? with
  |none=>rw[e]at d;simp at d
  |some o=>
   rw[e]at d;cases o<;>simp[mH,h]at d ⊢
   case cells c el f=>
    rw[zF]at d
    simp at d
    exact⟨c[z.off]'(d.1),hU d.1⟩
 .rintro ⟨u,d⟩
  exact⟨v,EO _ _ _ d⟩
theorem sC{cc:aP}(n:∀p∈st,p.1≠z):KL st cc (w.setCell z v)↔KL st cc w:=by
 constructor
 .rintro ⟨h,e⟩
  exact⟨λp d=>(qu _ _ _ _ (n p d).symm).symm.trans (h p d),λc hc=>by obtain⟨k,hk⟩:=e c hc;exact⟨k,oI.1 hk⟩⟩
 .rintro ⟨h,e⟩
  exact⟨λp d=>(qu _ _ _ _ (n p d).symm).trans (h p d),λc hc=>by obtain⟨k,hk⟩:=e c hc;exact⟨k,oI.2 hk⟩⟩
theorem yf(d:wI.heap.size<=z.block):Old wI (w.setCell z v)↔Old wI w:=by
 constructor
 .rintro ⟨q,p,n,h,e⟩
  refine⟨q,p,n,by simpa [World.setCell]using h,λk hk=>?_⟩;have:=e k hk;rw[heap_set,af (by omega)]at this;exact this
 .exact BS d
theorem pg{b o:Nat}(e:o≠5)(d:o≠6):¬jl l (.cell ⟨b,o,none⟩):=fun⟨A,_,z⟩=>by rcases z with z|z<;>simp at z<;>omega
theorem pe(w:aj)(c cap:Nat)(buf:fW)(cl:Bool)(x y:Nat)(d:Bool):(w.setChan c cap buf cl x y d).heap.size=w.heap.size:=by simp[World.setChan]
def KD(wI:aj)(A:Nat)(cc:aP)(st:oX)(w:aj):Prop:=Old wI w/\KL st cc w/\(∃v,w.cell? ⟨A,5,none⟩=some v)/\w.frozen? ⟨A,5,none⟩=false/\∃v,w.cell? ⟨A,6,none⟩=some v
def QD(A:Nat)(w:aj):Prop:=w.cell? ⟨A,6,none⟩=some (.int .u32 0)/\w.frozen? ⟨A,6,none⟩=false
section
variable{A:Nat}{cc:aP}
theorem Lr:∀w d,QD A w->QD A (w.at d):=λ_ _ h=>h
theorem RR(d:A∈l)(D:DX (cJ wI.heap.size l st) w w' es)(h:KD wI A cc st w):KD wI A cc st w':=by
 have H:¬cJ wI.heap.size l st ⟨A,5,none⟩ true:=λo=>o.1 ⟨A,d,.inl rfl⟩
 have G:¬cJ wI.heap.size l st ⟨A,6,none⟩ true:=λo=>o.1 ⟨A,d,.inr rfl⟩
 obtain⟨S,Q,⟨v,n⟩,L,F,e⟩:=h;obtain⟨E,y⟩:=D.cell _ H (au n);obtain⟨q,T⟩:=D.cell _ G (au e);exact⟨Ae (λa o=>(o.2 rfl).1) _ _ _ D S,LD (λp J o=>(o.2 rfl).2 ⟨p,J,rfl⟩) _ _ _ D Q,⟨v,E.trans n⟩,y.trans L,F,q.trans e⟩
theorem Lq(p:A∈l)(D:DX (cJ wI.heap.size l st) w w' es)(h:QD A w):QD A w':=by
 have n:¬cJ wI.heap.size l st ⟨A,6,none⟩ true:=λo=>o.1 ⟨A,p,.inr rfl⟩
 obtain⟨e,d⟩:=D.cell _ n (au h.1);exact⟨e.trans h.1,d.trans h.2⟩
theorem mT(y:A∈l)(q:wI.heap.size<=A)(n:∀p∈st,p.1≠⟨A,5,none⟩):GK (KD wI A cc st) (jl l) (gU A):=by
 refine⟨λw d h=>h,λw v=>?_,λw h=>?_,⟨A,y,.inl rfl⟩⟩
 .show KD wI A cc st (w.setCell ⟨A,5,none⟩ v)↔_
  unfold KD;rw[yf (z:=⟨A,5,none⟩) q,sC (z:=⟨A,5,none⟩) n,wJ (z:=⟨A,5,none⟩) rfl,rB];rw[qu _ _ _ _ (by simp)]
 .refine⟨?_,h.2.2.1,h.2.2.2.1⟩
  obtain⟨v,e⟩:=h.2.2.1
  show g9 w A
  unfold World.cell? at e;unfold g9
  split at e
  .exact⟨_,_,_,by assumption⟩
  .cases e
theorem Nm(h:A∈l):H9 (DX (cJ wI.heap.size l st)) ⟨A,5,none⟩:=λw w' es D e d hl=>by
 rcases D.ev e d with ⟨a,e1,_,n,_⟩|rfl
 .rw[e1]at hl
  cases hl
  exact n.1 ⟨A,h,.inl rfl⟩
 .cases hl
theorem TO(d:A∈l)(E:wI.heap.size<=A){Inb:Nat->Option Seat}{St:Nat->Loc->Prop}{L nb n dl:Nat}(e:nb<=9)(q:∀p∈st,p.1≠⟨A,5,none⟩)(y:∀g x,(Inb g).isSome->St g x->wO st x)(h:Nat):
 aC prog (h==0) (DX (cJ wI.heap.size l st)) (fG prog Post (KD wI A cc st) (QD A) (jl l) St Inb (gU A) L nb h n dl):=
 KE (mT d E q) e Lr (λw w' es D=>⟨HA (λad ⟨g,G,F⟩ o=>(o.2 rfl).2 (y g _ G F)) (λad wr z o=>o.1 z) (λw w' es D=>RR d D) w w' es D,Lq d D⟩) DX.idle wE (Nm d)
theorem vZ{k:Nat}(H:wI.heap.size<=c)(hc:c∈cc)(h:KD wI A cc st w):KD wI A cc st (w.setChan c 0 #[] false k k false):=by
 obtain⟨L,q,⟨v,p⟩,J,F,E⟩:=h;obtain⟨Q,n⟩:=q.2 c hc;have d:∀(a:Addr)(v:ay),w.cell? a=some v->c≠a.block:=λa v h e=>by subst e;simp[World.cell?,n]at h
 exact⟨F5 H L,JD (λy G=>d _ _ (q.1 y G)) hc q,⟨v,((iL (d _ _ p) ..).1).trans p⟩,((iL (d _ _ p) ..).2).trans J,F,((iL (d _ _ E) ..).1).trans E⟩
theorem FN{C:List Addr}(h:QD A w)(k:Kp [] w w' C)(d:(⟨A,6,none⟩:Addr)∉C):QD A w':=⟨k.cellC _ _ (by simp) d h.1,(k.jR _ _ (by simp) d h.1).trans h.2⟩
end
theorem gH(h:nth M i=some r):r∈M:=by rw[dN]at h;exact tH h
theorem lV(h:r∈M):∃i,nth M i=some r:=by
 obtain⟨i,d⟩:=CW h;exact⟨i,by rw[dN];exact d⟩
theorem Sat.kp{C:List Addr}(h:Sat Ok w M)(k:Kp [] w w' C)(q:∀r∈M,∀j,r.has j->r.ad j∉C)(y:∀r∈M,∀g e n,r.row=some (g,e,n)->∀x∈C,x.block≠g):Sat Ok w' M:=by
 refine⟨λi r d j hj=>?_,λi r d j hj=>?_,h.sep,λi r d g e n p=>?_⟩
 .exact k.cellC _ _ (by simp) (q r (gH d) j hj) (h.val i r d j hj)
 .have:=h.ok i r d j hj
  exact⟨this.1,λz=>⟨(this.2 z).1,(k.jR _ _ (by simp) (q r (gH d) j hj) (h.val i r d j hj)).trans (this.2 z).2⟩⟩
 .obtain⟨H,G,cur,F,E⟩:=h.row i r d g e n p
  exact⟨H,G,cur,k.blk g cur e (0,0) (by simp) (y r (gH d) g e n p) F,E⟩
theorem Sat.RP(h:Sat Ok w M)(k:Kp [] w w' []):Sat Ok w' M:=h.kp k (λ_ _ _ _=>by simp) (λ_ _ _ _ _ _ x d=>by cases d)
theorem Sat.P9(h:Sat Ok w M)(n:∀r∈M,∀j,r.has j->Ok (r.ad j) false->VG (r.ad j) false)(e:∀r∈M,r.wr=true->∀j,r.has j->Ok (r.ad j) true->VG (r.ad j) true):Sat VG w M:=by
 refine⟨h.val,λi r d j hj=>?_,h.sep,h.row⟩;have:=h.ok i r d j hj;exact⟨n r (gH d) j hj this.1,λz=>⟨e r (gH d) z j hj (this.2 z).1,(this.2 z).2⟩⟩
theorem Sat.dj(h:Sat Ok w M){r':aJ}(G:r∈M)(p:r'∈M)(y:r.wr=true)(n:r'.wr=false){j j':Ix}(hj:r.has j)(q:r'.has j'):r.ad j≠r'.ad j':=λe=>by
 obtain⟨i,E⟩:=lV G;obtain⟨F,d⟩:=lV p;obtain⟨rfl,_⟩:=h.sep i r F r' E d y j j' hj q e;rw[E]at d;cases d;rw[y]at n;cases n
theorem Sat.still{b:Nat}(h:Sat (cJ N l st) w M)(q:oR b 0 (v::vs) false∈M):Sat (cJ N l ((⟨b,0,none⟩,u)::st)) w M:=by
 refine h.P9 (λr _ j _ o=>⟨o.1,λz=>by cases z⟩) (λr y n j hj o=>⟨o.1,λ_=>⟨(o.2 rfl).1,fun⟨p,d,e⟩=>?_⟩⟩);rcases ak.1 d with rfl|d
 .simp only[Loc.cell.injEq]at e
  exact h.dj y q n rfl hj (j':=(0,0)) ⟨aG,by simp⟩ e
 .exact(o.2 rfl).2 ⟨p,d,e⟩
theorem TX{s:PS}{k:Nat}(hk:k<s.k.V.nl)(d:(s.k.V.ly k).k=4):fR ⟨(s.f k).g,0,none⟩ 1 (s.f k).v ((s.f k).o+(s.f k).c) true∈gS s:=nV.2 ⟨k,bp.2 hk,by unfold gR;rw[af (by rw[d];decide),ah d];simp⟩
theorem PV.still{b:Nat}{s:PS}{es:jg}(P:PV (cJ N l st) s es)(h:Sat (cJ N l st) w (pM s++C))(F:oR b 0 (v::vs) false∈pM s++C)(Q:∀r∈gS s,r∈pM s++C):PV (cJ N l ((⟨b,0,none⟩,u)::st)) s es:=by
 have up:∀(a:Addr)(wr:Bool),a.block≠b->cJ N l st a wr->cJ N l ((⟨b,0,none⟩,u)::st) a wr:=λa wr n o=>⟨o.1,λz=>⟨(o.2 z).1,fun⟨p,G,e⟩=>by
  rcases ak.1 G with rfl|G
  .simp only[Loc.cell.injEq]at e;exact n (by rw[e])
  .exact(o.2 z).2 ⟨p,G,e⟩⟩⟩
 refine⟨⟨P.jr.row,P.jr.le,P.jr.mx,λa q ad wr n=>?_⟩,P.en,λhc=>⟨(P.eo hc).1,λa wr n=>?_⟩,λk hk d=>⟨(P.fb k hk d).nil,(P.fb k hk d).len,λH ad wr n=>up ad wr (λz=>?_) ((P.fb k hk d).ok H ad wr n),(P.fb k hk d).val⟩⟩
 .refine up ad wr (λz=>?_) (P.jr.Rx a q ad wr n)
  rcases P.jr.row with ⟨y,_⟩|⟨g,y,J⟩
  .rw[y]at q;cases q
  .have E:vR s.ea 5 (λj=>yR (s.l.ev j)) s.l.el s.ec 55∈pM s++C:=lE _ (by simp[pM])
   refine h.dj E F rfl rfl (j:=(0,0)) (j':=(0,0)) ⟨J,(by decide:0<5)⟩ ⟨aG,by simp⟩ ?_;rw[y]at q;cases q
   show(((s.ea).getD ⟨0,0,none⟩).add (0*5)).add 0=(⟨b,0+0,none⟩:Addr)
   rw[y]
   show((⟨g,0,none⟩:Addr).add (0*5)).add 0=_
   rw[add_add];simp only at n;rw[<-z,n]
 .refine up a wr (λz=>?_) ((P.eo hc).2 a wr n)
  have L:0<s.eb.n:=by
   rcases P.en.2 with ⟨_,_,S⟩|⟨_,_,_,_,_,_,z,_⟩
   .omega
   .exact z
  have E:eR s.eb∈pM s++C:=lE _ (by simp[pM]);refine h.dj E F rfl rfl (j:=(0,0)) (j':=(0,0)) ⟨by show 0<s.eb.c;omega,L⟩ ⟨aG,by simp⟩ ?_
  show(⟨s.eb.E,0,none⟩:Addr)=⟨b,0+0,none⟩
  rw[<-z,n]
 .have hl:=(P.fb k hk d).len H
  refine h.dj (Q _ (TX hk d)) F rfl rfl (j:=(0,0)) (j':=(0,0)) ⟨by show 0<(s.f k).o+(s.f k).c;omega,aG⟩ ⟨aG,by simp⟩ ?_
  show((⟨(s.f k).g,0,none⟩:Addr).add (0*1)).add 0=(⟨b,0+0,none⟩:Addr)
  rw[add_add,<-z,n]
theorem Sat.lf{b:Nat}(h:Sat Ok w' M)(G:w'.cell? ⟨b,0,none⟩=some v)(ho:Ok ⟨b,0,none⟩ false)(H:∀r∈M,r.wr=true->∀j,r.has j->(r.ad j).block≠b):Sat Ok w' (oR b 0 [v] false::M):=by
 rw[sat_iff]at h ⊢;refine⟨λr d=>?_,dI.2 ⟨λr d F j j' hj y e=>?_,h.2⟩⟩
 .rcases ak.1 d with rfl|d
  .have E:∀j:Ix,(oR b 0 [v] false).has j->j=(0,0):=λj hj=>by
    obtain⟨L,J⟩:=hj;have q:j.1<1:=L;have p:j.2<1:=J;cases j;simp at q p;subst q;subst p;rfl
   exact⟨λj hj=>by rw[E j hj];exact G,λj hj=>⟨by rw[E j hj];exact ho,λz=>(by cases z)⟩,λz=>(by cases z),λg e n z=>(by cases z)⟩
  .exact h.1 r d
 .rcases F with z|z
  .cases z
  .exact H r d z j' y (by rw[<-e])
theorem Sat.T4:∀{Z:aX},Sat Ok w M->(∀r∈Z,r∈M/\r.wr=false)->Sat Ok w (Z++M)
 |[],h,_=>h
 |r::Z,h,e=>by
  have y:=Sat.T4 (Z:=Z) h λr' d=>e r' (aO _ d)
  obtain⟨q,p⟩:=e r (bS ..);obtain⟨i,n⟩:=lV q;exact y.get (Has.app (C:=M) ⟨p,i,n⟩ Z)
theorem Sat.blk(h:Sat Ok w M)(d:r∈M){j:Ix}(hj:r.has j):(r.ad j).block<w.heap.size:=au ((h.mem d).val j hj)
abbrev cu{α:Type}(f:Nat->α)(i:Nat)(x:α):Nat->α:=Go.ConcN.upd f i x
theorem aY(f:Nat->α)(i:Nat)(x:α):cu f i x i=x:=Go.ConcN.upd_same ..
theorem bZ(f:Nat->α)(x:α)(h:j≠i):cu f i x j=f j:=Go.ConcN.upd_ne _ _ h
structure RN where
 wI:World
 l:List Nat
 k:PK
 cR:Frame
 nG:List Frame
 S:List aJ
 W:List aJ
 Lf:LS
 ba:Nat->Nat
 bt:Nat->Nat
 bw:Nat->Nat
 bi:Nat->Nat
 bl:Nat
 bo:Nat
abbrev RN.n(R:RN):Nat:=R.k.V.nc
abbrev RN.cc(R:RN):List Nat:=R.k.bI::R.k.bE::(List.range R.n).map R.k.aR
abbrev Md(A:Nat):Value:=.pointer (some ⟨A,5,none⟩)
structure vk(R:RN):Prop where
 V:vf R.k.V
 hA:R.k.A∈R.l
 ll:∀x∈R.l,x<=R.k.A
 iA:R.wI.heap.size<=R.k.A
 iw:R.wI.heap.size<=R.k.bI
 ie:R.wI.heap.size<=R.k.bE
 it:∀j,j<R.n->R.wI.heap.size<=R.k.aR j
 we:R.k.bI≠R.k.bE
 tw:∀j,j<R.n->R.k.aR j≠R.k.bI/\R.k.aR j≠R.k.bE
 ti:∀i,i<R.n->∀j,j<R.n->R.k.aR i=R.k.aR j->i=j
 sc:∀j,j<R.n->R.k.sc j=.func (.func 50) #[] #[ptr (R.ba j),ptr (R.bt j),ptr (R.bw j)]
 fJ:0<R.n->ze R.k R.S
 fl:Flat R.S
 flW:Flat R.W
 ro:∀r∈R.S,r.wr=false
 ch:Has R.S (oR R.k.A 3 [.chan (some R.k.bI),.chan (some R.k.bE)] false)
 Qq:∀j,j<R.n->Has R.S (oR (R.ba j) 0 [ptr R.k.A] false)
 G4:∀j,j<R.n->Has R.S (oR (R.bt j) 0 [ptr (R.k.T j)] false)
 Vt:∀j,j<R.n->Has R.S (oR (R.bw j) 0 [.func (.func 37) #[] #[ptr R.bl,ptr R.bo,ptr (R.bi j)]] false)
 hbi:∀j,j<R.n->Has R.S (oR (R.bi j) 0 [i6 j] false)
 JZ:Has R.S (oR R.bo 0 [.slice (some ⟨R.k.O,0,none⟩) R.k.V.nc R.k.V.nc] false)
 L6:Has R.S (oR R.bl 0 [BV R.k 0] false)
structure A7 where
 κ:Nat
 wn:Nat
 x:Nat
 bg:Nat
 c:Frame
 cs:List Frame
 R:List aJ
 v:Value
 ly:Int
 b:Bk
 a:Nat->Int
 us:Int
 qq:Nat->Int
abbrev TQ:=Option (A7 ⊕ Bool)
abbrev ir(q:A7):TQ:=some (.inl q)
abbrev lg:TQ:=some (.inr false)
abbrev Cv:TQ:=some (.inr true)
theorem vr(s:TQ):s=none\/(∃q,s=ir q)\/s=lg\/s=Cv:=by
 match s with
 |none=>exact .inl rfl
 |some (.inl q)=>exact .inr (.inl ⟨q,rfl⟩)
 |some (.inr false)=>exact .inr (.inr (.inl rfl))
 |some (.inr true)=>exact .inr (.inr (.inr rfl))
def own(T:Nat):TQ->List aJ
 |none=>[fI T (.pointer none) false]
 |some (.inl q)=>fI T q.v false::oR q.x 1 [i6 0] true::oR q.x 0 [ptr T] false::q.R
 |some (.inr _)=>[]
def uh:TQ->Nat
 |none=>1
 |_=>0
def wU:TQ->Nat
 |some (.inl _)=>1
 |_=>0
structure Gd where
 st:List (Addr×Value)
 ng:Nat
 L:Nat
 nb:Nat
 Inb:Nat->Option Seat
 St:Nat->Loc->Prop
 tk:Nat->TQ
 dn:List aJ
def nq(R:RN)(tk:Nat->TQ):List aJ:=(List.range R.n).flatMap λj=>own (R.k.T j) (tk j)
def za(R:RN)(σ:Gd):List aJ:=nq R σ.tk++(σ.dn++R.S)
abbrev cO(R:RN)(σ:Gd)(s:PS):List aJ:=gS s++za R σ
abbrev Gd.fr(σ:Gd)(R:RN):Nat:=sumTo R.n λj=>uh (σ.tk j)
abbrev Gd.pk(σ:Gd)(R:RN):Nat:=sumTo R.n λj=>wU (σ.tk j)
theorem uJ{R:RN}{tk:Nat->TQ}(d:i<R.n){b:Bool}:(nq R tk).Perm (own (R.k.T i) (tk i)++nq R (cu tk i (some (.inr b)))):=by
 have:=nk (λj=>own (R.k.T j) (tk j)) (λj=>own (R.k.T j) (cu tk i (some (.inr b)) j)) i (by simp only[aY];rfl) (λj hj=>by simp only[bZ _ _ hj]) R.n;rw[ah d]at this;exact this
theorem Ue(f:Nat->α)(i:Nat)(x y:α):cu (cu f i x) i y=cu f i y:=by
 funext j;by_cases e:j=i
 .subst e;rw[aY,aY]
 .rw[bZ _ _ e,bZ _ _ e,bZ _ _ e]
theorem Ud(f:Nat->α)(i:Nat)(x:α)(h:f i=x):cu f i x=f:=by
 funext j;by_cases e:j=i
 .subst e;rw[aY,h]
 .rw[bZ _ _ e]
abbrev jN(R:RN)(σ:Gd):Addr->Bool->Prop:=cJ R.wI.heap.size R.l σ.st
abbrev wT(R:RN)(Post:qG)(σ:Gd)(h:Nat):Goroutine->World->Prop:=fG prog Post (KD R.wI R.k.A R.cc σ.st) (QD R.k.A) (jl R.l) σ.St σ.Inb (gU R.k.A) σ.L σ.nb h σ.ng 0
structure Y8(R:RN)(σ:Gd)(s:PS)(j:Nat)(q:A7):Prop where
 zo:σ.Inb q.κ=some (lK (R.k.aR j) q.c q.cs)
 zw:0<q.κ
 MB:q.κ<σ.ng
 bg:(⟨q.bg,0,none⟩,Md R.k.A)∈σ.st
 x:(⟨q.x,0,none⟩,ptr (R.k.T j))∈σ.st
 wn:q.wn<s.l.wl
 wb:s.wb q.wn=q.x
 wl:(s.l.wt q.wn).l=q.ly
 wk:(s.l.wt q.wn).b=q.b
 a:(s.l.tk j).a=q.a
 us:s.l.us j=q.us
 tq:(s.l.tk j).q=q.qq
 fJ:ze R.k q.R
 fl:Flat q.R
structure Co(R:RN)(σ:Gd)(s:PS)(B:Nat):Prop where
 hk:s.k=R.k
 Lz:0<σ.ng
 IB:R.wI.heap.size<=B
 AB:R.k.A<B
 st:∀p∈σ.st,p.1.off≠5/\p.1.off≠6/\p.1.block<B
 sA:∀y∈qy R.k.A R.k.bI R.k.bE,y∈σ.st
 sT:∀j,j<R.n->(⟨R.k.T j,3,none⟩,Value.chan (some (R.k.aR j)))∈σ.st
 Ni:∀g x,(σ.Inb g).isSome->σ.St g x->wO σ.st x
 zo:∀g e,σ.Inb g=some e->g≠0->∃j q,j<R.n/\σ.tk j=ir q/\q.κ=g
 pk:∀j q,j<R.n->σ.tk j=ir q->Y8 R σ s j q
 mK:∀i∈s.q,∃t:Nat,t<R.n/\(s.l.ag i).t=t/\(((s.l.ag i).c=0/\σ.tk t=none)\/((s.l.ag i).c=1/\∃q,σ.tk t=ir q/\(s.l.ag i).w=q.wn))
 ql:∀i∈s.q,i<s.l.al
 all:∀t:Nat,t<R.n->(σ.tk t=none\/∃q,σ.tk t=ir q)->∃i∈s.q,(s.l.ag i).t=t
 T8:s.q.Pairwise λi j=>(s.l.ag i).t≠(s.l.ag j).t
 cnt:s.q.length=σ.fr R+σ.pk R
 nb:σ.nb+σ.fr R<=9
 ed:∀j,j<R.n->σ.tk j=Cv->eY (σ.dn++R.S) (s.oh j) (s.l.ou j).b.ch
 T9:Flat σ.dn
 dW:∃Y,σ.dn=Y++R.W
abbrev lJ(R:RN):Seat:=lM R.k.bI R.k.bE (CQ R.k.A R.k.bI R.k.bE (R.cR::R.nG))
structure zi(R:RN)(σ:Gd)(s:PS)(B t κ bg:Nat):Prop where
 co:Co R σ s B
 tn:t<R.n
 lv:σ.tk t=lg
 ZB:∀j,j<R.n->j≠t->σ.tk j≠lg
 i0:σ.Inb 0=some (lJ R)
 zw:0<κ
 MB:κ<σ.ng
 iκ:σ.Inb κ=none
 bg:(⟨bg,0,none⟩,Md R.k.A)∈σ.st
 L:σ.L=σ.pk R+1
def UB(R:RN)(Post:qG)(P:Nat->A7->Prop)(m j:Nat)(q:A7):Prop:=∀(σ:Gd)(s:PS)(w:aj),zi R σ s w.heap.size j q.κ q.bg->Sat (jN R σ) w (pM s++(fI (R.k.T j) q.v false::(q.R++cO R σ s)))->PV (jN R σ) s (bQ s)->QI s->zh R.k.V R.Lf m j q.wn s.l->
 (s.l.wt q.wn).l=q.ly->(s.l.wt q.wn).b=q.b->(s.l.tk j).a=q.a->s.l.us j=q.us->(s.l.tk j).q=q.qq->(∀j' I,j'<R.n->σ.tk j'=ir I->P j' I)->wT R Post σ q.κ (G (q.c.finish (i6 1)) q.cs) w
def nI(R:RN)(Post:qG):Nat->Nat->A7->Prop
 |0,_,_=>True
 |m+1,j,q=>nI R Post m j q/\UB R Post (nI R Post m) m j q
theorem nI.of{R:RN}{Post:qG}{j:Nat}{q:A7}:∀{m:Nat},(∀d,d<m->UB R Post (nI R Post d) d j q)->nI R Post m j q
 |0,_=>trivial
 |m+1,h=>⟨nI.of λd e=>h d (CU e),h m (ij m)⟩
theorem nI.mono{R:RN}{Post:qG}{j:Nat}{q:A7}:∀{m d:Nat},m<=d->nI R Post d j q->nI R Post m j q
 |m,0,h,x=>by cases Nat.le_zero.1 h;exact x
 |m,d+1,h,x=>by
  by_cases e:m=d+1
  .subst e;exact x
  .exact nI.mono (Nat.le_of_lt_succ (Nat.lt_of_le_of_ne h e)) x.1
def vi(R:RN)(Post:qG)(m:Nat):Prop:=∀(σ:Gd)(s:PS)(w:aj)(g:aW),Co R σ s w.heap.size->(∀j,j<R.n->σ.tk j≠lg)->σ.Inb 0=none->σ.L=σ.pk R->Sat (jN R σ) w (pM s++cO R σ s)->PV (jN R σ) s (bQ s)->QI s->Fin R.k.V R.Lf m none s.l->
 (∀j q,j<R.n->σ.tk j=ir q->nI R Post m j q)->wP R.k.A (R.cR::R.nG) g->wT R Post σ 0 g w
structure UD(R:RN)(Post:qG)(Λ t κ bg:Nat) where
 σ:Gd
 s0:PS
 B:Nat
 qT:Nat
 Pk:zi R σ s0 B t κ bg
 rs:∀j q,j<R.n->σ.tk j=ir q->nI R Post qT j q
 lt:qT<Λ
def eD(R:RN)(Post:qG)(Λ t κ bg:Nat):TE (UD R Post Λ t κ bg):=⟨λp=>jN R p.σ,λp=>wT R Post p.σ κ,λp=>p.B,λp=>za R p.σ,λp=>p.s0,λp=>p.qT⟩
section
variable{R:RN}{σ:Gd}{s O:PS}
theorem Co.n5(C:Co R σ s B):∀p∈σ.st,p.1≠⟨R.k.A,5,none⟩:=λp d e=>by have:=(C.st p d).1;rw[e]at this;exact this rfl
theorem Co.n6(C:Co R σ s B):∀p∈σ.st,p.1≠⟨R.k.A,6,none⟩:=λp d e=>by have:=(C.st p d).2.1;rw[e]at this;exact this rfl
theorem Co.Dx(C:Co R σ s B):σ.nb<=9:=aT (Bm _ _) C.nb
theorem Co.hB(C:Co R σ s B)(H:vk R)(a:Addr)(wr:Bool)(h:B<=a.block):jN R σ a wr:=by
 refine⟨fun⟨y,q,d⟩=>?_,λ_=>⟨aT C.IB h,fun⟨p,n,e⟩=>?_⟩⟩
 .have F:=H.ll y q
  have E:=C.AB;rcases d with d|d<;>(cases d;simp only at h;omega)
 .have:=(C.st p n).2.2
  cases e;omega
theorem Co.Mg(C:Co R σ s B)(H:vk R)(h:Nat):aC prog (h==0) (DX (jN R σ)) (wT R Post σ h):=TO H.hA H.iA C.Dx C.n5 C.Ni h
theorem Co.gu(C:Co R σ s B)(hl:σ.tk t=lg)(h:Gu t s O)(G:O.l.wl=s.l.wl):Co R σ O B:=by
 refine{C with hk:=h.k.trans C.hk,pk:=λj q hj y=>?_,mK:=λi n=>?_,ql:=λi n=>?_,all:=λF p H=>?_,T8:=?_,cnt:=?_,ed:=λj hj E=>?_}
 .have P:=C.pk j q hj y
  have d:j≠t:=λe=>by rw[e,hl]at y;cases y
  exact{P with wn:=by rw[G];exact P.wn,wb:=by rw[h.wb];exact P.wb,wl:=by rw[h.wt];exact P.wl,wk:=by rw[h.wt];exact P.wk,a:=by rw[h.tk j d];exact P.a,us:=by rw[h.us j d];exact P.us,tq:=by rw[h.tk j d];exact P.tq}
 .rw[h.q]at n;rw[h.ag];exact C.mK i n
 .rw[h.q]at n;rw[h.al];exact C.ql i n
 .rw[h.q,h.ag];exact C.all F p H
 .rw[h.q,h.ag];exact C.T8
 .rw[h.q];exact C.cnt
 .have d:j≠t:=λe=>by rw[e,hl]at E;cases E
  rw[(h.ou j d).1,(h.ou j d).2];exact C.ed j hj E
theorem Flat.nq(C:Co R σ s B):Flat (nq R σ.tk):=by
 rw[bN];intro r d;unfold Go.Proofs.YtobagnjnbmgidaaGreatDoor.nq at d;obtain⟨j,hj,d⟩:=nV.1 d;rcases vr (σ.tk j)with e|⟨q,e⟩|e|e
 .rw[e]at d;simp[own]at d;rw[d]
 .rw[e]at d
  simp only[own,ak]at d;rcases d with rfl|rfl|rfl|d
  .rfl
  .rfl
  .rfl
  .exact bN.1 (C.pk j q (bp.1 hj) e).fl r d
 .rw[e]at d;cases d
 .rw[e]at d;cases d
theorem Co.q9(C:Co R σ s B)(H:vk R):s.q.length<900:=by
 have p:=C.cnt;have n:σ.fr R<=1*R.n:=Go.ConcN.sumTo_le (λi _=>by rcases vr (σ.tk i)with e|⟨q,e⟩|e|e<;>rw[e]<;>simp[uh]);have h:σ.pk R<=1*R.n:=Go.ConcN.sumTo_le (λi _=>by rcases vr (σ.tk i)with e|⟨q,e⟩|e|e<;>rw[e]<;>simp[wU]);have d:R.n<=9:=H.V.nc;omega
theorem Co.flat(C:Co R σ s B)(H:vk R):Flat (za R σ):=(Flat.nq C).app (C.T9.app H.fl)
theorem Co.Ho(C:Co R σ s B)(H:vk R):Flat (cO R σ s):=Flat.app (bN.2 (AG s)) (C.flat H)
end
theorem Sat.Nj{a b:ay}(h:Sat Ok w (bR x [a,b]::M)):Sat Ok w (oR x 1 [b] true::oR x 0 [a] false::M):=by
 rw[sat_iff]at h ⊢;obtain⟨G,E⟩:=h;have H:=G _ (bS ..)
 have q:∀{o:Nat}{v:ay}{wr:Bool}(j:Ix),(oR x o [v] wr).has j->j=(0,0):=fun{o v wr} j hj=>by
  obtain⟨G,E⟩:=hj;have F:j.1<1:=G;have y:j.2<1:=E;cases j;simp at F y;subst F;subst y;rfl
 have b0:(bR x [a,b]).has (0,0):=⟨aG,(by decide:0<2)⟩;have b1:(bR x [a,b]).has (0,1):=⟨aG,(by decide:1<2)⟩;refine⟨λr p=>?_,dI.2 ⟨λr p J j j' hj d e=>?_,dI.2 ⟨λr p J j j' hj d e=>?_,(dI.1 E).2⟩⟩⟩
 .rcases ak.1 p with rfl|p
  .exact⟨λj hj=>by rw[q j hj];exact H.val (0,1) b1,λj hj=>by rw[q j hj];exact H.ok (0,1) b1,λ_ j j' hj d _=>by rw[q j hj,q j' d],λg e n z=>by cases z⟩
  .rcases ak.1 p with rfl|p
   .exact⟨λj hj=>by rw[q j hj];exact H.val (0,0) b0,λj hj=>by rw[q j hj];exact⟨(H.ok (0,0) b0).1,λz=>(by cases z)⟩,λz=>(by cases z),λg e n z=>(by cases z)⟩
   .exact G r (aO _ p)
 .rw[q j hj]at e
  rcases ak.1 p with rfl|p
  .rw[q j' d]at e;simp at e
  .exact(dI.1 E).1 r p (.inl rfl) (0,1) j' b1 d e
 .rw[q j hj]at e
  exact(dI.1 E).1 r p (.inl rfl) (0,0) j' b0 d e
def NF(T aR x:Nat):List (Addr×Value):=[(⟨x,0,none⟩,ptr T),(⟨T,3,none⟩,.chan (some aR))]
def Gd.ld(σ:Gd)(R:RN)(t:Nat)(q:A7):Gd:={st:=(⟨q.x,0,none⟩,ptr (R.k.T t))::σ.st,ng:=σ.ng,L:=σ.L,nb:=σ.nb,Inb:=cu (cu σ.Inb q.κ (some (lK (R.k.aR t) q.c q.cs))) 0 none,St:=cu σ.St q.κ (wO (NF (R.k.T t) (R.k.aR t) q.x)),tk:=cu σ.tk t (ir q),dn:=σ.dn}
section
variable{R:RN}{σ:Gd}{s O:PS}
theorem Eg(e:t<R.n)(hl:σ.tk t=lg)(q:A7)(s:PS):(cO R (σ.ld R t q) s).Perm (own (R.k.T t) (ir q)++cO R σ s):=by
 have h:=uJ (R:=R) (tk:=cu σ.tk t (ir q)) e (b:=false);rw[aY,Ue,Ud _ _ _ hl]at h;have d:=h.append_right (σ.dn++R.S);rw[fM]at d;exact(kv (gS s) d).trans (iP ..)
abbrev PS.uD(s:PS)(t:Nat)(ly d:Int)(i x:Nat)(en:ay)(eb:oV)(b:Bk):PS:={s.cY t ly d i x en eb with l:=(s.l.wait t ly d).NI s.l.wl b}
theorem Ku(C:zi R σ s B t κ bg){ly d:Int}{eb:oV}{b:Bk}{c:aE}(hs:ze R.k R')(hf:Flat R')(hB:B<=B')(hx:x<B'):
 Co R (σ.ld R t ⟨κ,s.l.wl,x,bg,c,cs,R',v,ly,b,(s.l.tk t).a,s.l.us t,(s.l.tk t).q⟩) (s.uD t ly d i x en eb b) B':=by
 have c0:=C.co;generalize J:(⟨κ,s.l.wl,x,bg,c,cs,R',v,ly,b,(s.l.tk t).a,s.l.us t,(s.l.tk t).q⟩:A7)=q;have Z:q.κ=κ:=by rw[<-J]
 have qw:q.wn=s.l.wl:=by rw[<-J]
 have qx:q.x=x:=by rw[<-J]
 have qc:q.c=c:=by rw[<-J]
 have qs:q.cs=cs:=by rw[<-J]
 have Wt:=C.zw;have L:∀j,j<s.l.al->(s.uD t ly d i x en eb b).l.ag j=s.l.ag j:=λj hj=>by show upd _ _ _ j=_;unfold upd;rw[af];rfl;exact xx hj
 have qW:(s.uD t ly d i x en eb b).l.ag s.l.al=⟨s.l.now+d,t,s.l.wl,1,false⟩:=by show upd _ _ _ _=_;unfold upd;rw[ah];rfl
 have G:∀j,j∈(s.uD t ly d i x en eb b).q↔j=s.l.al\/j∈s.q:=λj=>by
  show j∈s.q.take i++s.l.al::s.q.drop i↔_
  conv=>rhs;rhs;rw[<-zB i s.q]
  simp only[dZ,ak]
  constructor
  .rintro (h|h|h)
   .exact .inr (.inl h)
   .exact .inl h
   .exact .inr (.inr h)
  .rintro (h|h|h)
   .exact .inr (.inl h)
   .exact .inl h
   .exact .inr (.inr h)
 have LI:∀k,k<s.l.wl->((s.uD t ly d i x en eb b).l.wt k).l=(s.l.wt k).l/\((s.uD t ly d i x en eb b).l.wt k).b=(s.l.wt k).b:=λk hk=>by
  have:(s.uD t ly d i x en eb b).l.wt k=s.l.wt k:=by
   show upd (upd s.l.wt s.l.wl _) s.l.wl _ k=_
   unfold upd;rw[af (by omega),af (by omega)]
  rw[this];exact⟨rfl,rfl⟩
 have ZN:((s.uD t ly d i x en eb b).l.wt s.l.wl).l=ly/\((s.uD t ly d i x en eb b).l.wt s.l.wl).b=b:=by
  have:(s.uD t ly d i x en eb b).l.wt s.l.wl=⟨t,ly,false,false,b⟩:=by
   show upd _ s.l.wl {upd s.l.wt s.l.wl _ s.l.wl with b:=b} s.l.wl=_
   unfold upd;rw[ah rfl,ah rfl]
  rw[this];exact⟨rfl,rfl⟩
 have nt:∀j∈s.q,(s.l.ag j).t≠t:=λj hj e=>by
  obtain⟨Y,H,W,Q⟩:=c0.mK j hj;have:Y=t:=by omega
  subst this;rcases Q with ⟨_,Q⟩|⟨_,I,Q,_⟩<;>(rw[C.lv]at Q;cases Q)
 have S:∀j,j≠t->(σ.ld R t q).tk j=σ.tk j:=λj hj=>bZ _ _ hj
 refine⟨c0.hk,c0.Lz,aT c0.IB hB,c7 c0.AB hB,λp hp=>?_,λy hy=>aO _ (c0.sA y hy),λj hj=>aO _ (c0.sT j hj),λg y H W=>?_,λg e H W=>?_,λj I hj F=>?_,λj hj=>?_,λj hj=>?_,λY WJ h'=>?_,?_,?_,?_,λj hj he=>?_,c0.T9,c0.dW⟩
 .rcases ak.1 hp with rfl|hp
  .exact⟨(by decide:0≠5),(by decide:0≠6),by show q.x<B';rw[qx];exact hx⟩
  .have:=c0.st p hp;exact⟨this.1,this.2.1,c7 this.2.2 hB⟩
 .have E:(cu (cu σ.Inb q.κ (some (lK (R.k.aR t) q.c q.cs))) 0 none g).isSome:=H
  have J6:cu σ.St q.κ (wO (NF (R.k.T t) (R.k.aR t) q.x)) g y:=W
  by_cases e0:g=0
  .subst e0;rw[aY]at E;cases E
  .rw[bZ _ _ e0]at E
   by_cases e:g=q.κ
   .subst e;rw[aY]at J6
    obtain⟨p,hp,rfl⟩:=J6;simp only[NF,ak,bB,or_false]at hp;rcases hp with rfl|rfl
    .exact⟨_,bS ..,rfl⟩
    .exact⟨_,aO _ (c0.sT t C.tn),rfl⟩
   .rw[bZ _ _ e]at E J6
    obtain⟨p,hp,rfl⟩:=c0.Ni g y E J6;exact⟨p,aO _ hp,rfl⟩
 .have E:cu (cu σ.Inb q.κ (some (lK (R.k.aR t) q.c q.cs))) 0 none g=some e:=H
  rw[bZ _ _ W]at E
  by_cases eg:g=q.κ
  .exact⟨t,q,C.tn,aY ..,eg.symm⟩
  .rw[bZ _ _ eg]at E
   obtain⟨j,I,hj,F,nA⟩:=c0.zo g e E W;exact⟨j,I,hj,by rw[S j (λz=>by rw[z,C.lv]at F;cases F)];exact F,nA⟩
 .by_cases e:j=t
  .subst e
   have:I=q:=by
    have h9:cu σ.tk j (ir q) j=ir I:=F;rw[aY]at h9;cases h9;rfl
   subst this;refine⟨?_,by rw[Z];exact Wt,by rw[Z];exact C.MB,aO _ (by rw[<-J];exact C.bg),bS ..,by rw[qw];exact ij _,?_,by rw[qw,<-J];exact ZN.1,by rw[qw,<-J];exact ZN.2,?_,by rw[<-J];rfl,?_,by rw[<-J];exact hs,by rw[<-J];exact hf⟩
   .show cu (cu σ.Inb I.κ _) 0 none I.κ=_
    rw[bZ _ _ (by rw[Z];omega),aY]
   .show upd s.wb s.l.wl x I.wn=_
    rw[qw,qx];unfold upd;rw[ah rfl]
   .show(upd s.l.tk j _ j).a=_
    rw[<-J];unfold upd;rw[ah rfl]
   .show(upd s.l.tk j _ j).q=_
    rw[<-J];unfold upd;rw[ah rfl]
  .rw[S j e]at F
   have P:=c0.pk j I hj F;have T:I.κ≠q.κ:=λz=>by have:=P.zo;rw[z,Z,C.iκ]at this;cases this
   refine⟨?_,P.zw,P.MB,aO _ P.bg,aO _ P.x,CU P.wn,?_,by rw[(LI _ P.wn).1];exact P.wl,by rw[(LI _ P.wn).2];exact P.wk,?_,P.us,?_,P.fJ,P.fl⟩
   .show cu (cu σ.Inb q.κ _) 0 none I.κ=_
    rw[bZ _ _ (by have:=P.zw;omega),bZ _ _ T];exact P.zo
   .show upd s.wb s.l.wl x I.wn=_
    have:=P.wn;unfold upd;rw[af (by omega)];exact P.wb
   .show(upd s.l.tk t _ j).a=_
    unfold upd;rw[af e];exact P.a
   .show(upd s.l.tk t _ j).q=_
    unfold upd;rw[af e];exact P.tq
 .rcases(G j).1 hj with rfl|hj
  .rw[qW];exact⟨t,C.tn,rfl,.inr ⟨rfl,q,aY ..,by rw[qw]⟩⟩
  .rw[L j (c0.ql j hj)]
   obtain⟨Y,H,W,Q⟩:=c0.mK j hj;have T:Y≠t:=λz=>nt j hj (by rw[W,z])
   exact⟨Y,H,W,by rw[S Y T];exact Q⟩
 .rcases(G j).1 hj with rfl|hj
  .exact ij _
  .exact CU (c0.ql j hj)
 .by_cases e:Y=t
  .exact⟨s.l.al,(G _).2 (.inl rfl),by rw[qW,e]⟩
  .rw[S Y e]at h'
   obtain⟨j,hj,H⟩:=c0.all Y WJ h';exact⟨j,(G j).2 (.inr hj),by rw[L j (c0.ql j hj)];exact H⟩
 .have hd:=c0.T8
  show(s.q.take i++s.l.al::s.q.drop i).Pairwise _
  rw[<-zB i s.q,xu]at hd;obtain⟨p1,p2,p3⟩:=hd;have ht:∀j∈s.q.take i,j∈s.q:=λj hj=>CY hj
  have V:∀j∈s.q.drop i,j∈s.q:=λj hj=>CX hj
  have hh:∀j∈s.q,∀k∈s.q,(s.l.ag j).t≠(s.l.ag k).t->((s.uD t ly d i x en eb b).l.ag j).t≠((s.uD t ly d i x en eb b).l.ag k).t:=λj hj k hk h=>by rw[L j (c0.ql j hj),L k (c0.ql k hk)];exact h
  rw[xu,dI];refine⟨EM (λha hb h=>hh _ (ht _ ha) _ (ht _ hb) h) p1,⟨λj hj=>?_,EM (λha hb h=>hh _ (V _ ha) _ (V _ hb) h) p2⟩,λj hj k hk=>?_⟩
  .rw[qW,L j (c0.ql j (V j hj))];exact λz=>nt j (V j hj) z.symm
  .rcases ak.1 hk with rfl|hk
   .rw[qW,L j (c0.ql j (ht j hj))];exact nt j (ht j hj)
   .exact hh j (ht j hj) k (V k hk) (p3 j hj k hk)
 .show(s.q.take i++s.l.al::s.q.drop i).length=sumTo R.n (λj=>uh (cu σ.tk t (ir q) j))+sumTo R.n (λj=>wU (cu σ.tk t (ir q) j))
  have H:=sumTo_upd σ.tk (ir q) uh C.tn;have W:=sumTo_upd σ.tk (ir q) wU C.tn;rw[C.lv]at H W;simp only[uh,wU]at H W;have Q:=c0.cnt
  have h4:(s.q.take i++s.l.al::s.q.drop i).length=s.q.length+1:=by
   conv=>rhs;rw[<-zB i s.q]
   simp only[qt,eG];omega
  rw[h4];simp only[Gd.fr,Gd.pk]at Q;unfold cu;simp only[uh,wU]at Q ⊢;omega
 .show σ.nb+sumTo R.n (λj=>uh (cu σ.tk t (ir q) j))<=9
  have H:=sumTo_upd σ.tk (ir q) uh C.tn;rw[C.lv]at H;have Q:=c0.nb;simp only[uh,Gd.fr]at H Q;unfold cu;simp only[uh]at Q ⊢;omega
 .have T:j≠t:=λz=>by
   have h9:cu σ.tk t (ir q) j=Cv:=he;rw[z,aY]at h9;cases h9
  rw[S j T]at he;exact c0.ed j hj he
end
section
variable{R:RN}{σ:Gd}{s O:PS}
theorem Has.sat{b o:Nat}(h:Sat Ok w M)(d:Has M (oR b o (v::vs) false)):w.cell? ⟨b,o,none⟩=some v:=by
 obtain⟨_,i,e⟩:=d;exact h.val i _ e (0,0) ⟨aG,by simp⟩
theorem Co.inj(C:Co R σ s B){g n:Nat}{e:Seat}(p:g≠0)(d:σ.Inb g=some e)(hc:e.has n):∃j q,j<R.n/\σ.tk j=ir q/\q.κ=g/\n=R.k.aR j:=by
 obtain⟨j,q,hj,h,hk⟩:=C.zo g e d p;have:=(C.pk j q hj h).zo;rw[hk,d]at this;rw[Option.some.inj this]at hc;exact⟨j,q,hj,h,hk,mg hc⟩
theorem Nb(H:vk R)(IH:∀m,m<Λ->vi R Post m)(p:UD R Post Λ t κ bg)(s:PS)(w:aj)(i x:Nat)(en:ay)(eb:oV)(ly:Nat)(d:Int)(b:Bk)(c:aE)(cs:cW)(R':aX)(v:ay)(m:Nat)(g1:Gu t p.s0 s)(hS:Sat (jN R p.σ) w (pM (s.cY t ly d i x en eb)++(fI (R.k.T t) v false::bR x [ptr (R.k.T t),i6 0]::(R'++cO R p.σ s))))(hP:PV (jN R p.σ) (s.cY t ly d i x en eb) (bQ (s.cY t ly d i x en eb)))(hQ:QI (s.cY t ly d i x en eb))(hF:Flat (R'++za R p.σ))(T:ze R.k R')(hB:p.B<=w.heap.size)(wj:Fin R.k.V R.Lf m none ((s.l.wait t ly d).NI s.l.wl b))(hm:m<=p.qT)(K:∀(p':UD R Post Λ t κ bg) O w' Z,Z<m->Z<=p'.qT->Cn (eD R Post Λ t κ bg) R.k t p' O w' v R'->zh R.k.V R.Lf Z t s.l.wl O.l->(O.l.wt s.l.wl).l=ly->(O.l.wt s.l.wl).b=b->(O.l.tk t).a=(s.l.tk t).a->O.l.us t=s.l.us t->(O.l.tk t).q=(s.l.tk t).q->wT R Post p'.σ κ (G (c.finish (i6 1)) cs) w'):
 wT R Post p.σ κ (G (Frame.enter Tryz.prog 153 #[ptr x] .normal) (c::cs)) w:=by
 have C:=p.Pk;have c0:Co R p.σ s p.B:=C.co.gu C.lv g1 g1.wl;have Ct:zi R p.σ s p.B t κ bg:={C with co:=c0};have zw:=C.zw;have S:(κ==0)=false:=by simp;omega
 have W7:=p.lt;have GG:=mT (cc:=R.cc) H.hA H.iA c0.n5;refine fG.assume GG λhK hQ6=>?_
 have x0:w.cell? ⟨x,0,none⟩=some (ptr (R.k.T t)):=by
  have hm:bR x [ptr (R.k.T t),i6 0]∈pM (s.cY t ly d i x en eb)++(fI (R.k.T t) v false::bR x [ptr (R.k.T t),i6 0]::(R'++cO R p.σ s)):=by simp
  exact(hS.mem hm).val (0,0) ⟨aG,(by decide:0<2)⟩
 have t0:w.cell? ⟨R.k.T t,0,none⟩=some (ptr R.k.A):=Has.sat hS (((T.nL t C.tn).pre _).cons.cons.app _);have F:=c0.Mg (Post:=Post) H κ;rw[S]at F;refine Hy F R.k.A (R.k.T t) R.k.bI (R.k.aR t) x c cs w x0 t0 (hK.2.1.1 _ (c0.sA (⟨R.k.A,3,none⟩,.chan (some R.k.bI)) (bS ..))) ⟨pg (by decide) (by decide),λh=>by cases h⟩ ⟨pg (by decide) (by decide),λh=>by cases h⟩ ⟨pg (by decide) (by decide),λh=>by cases h⟩ (λa ⟨sD,hsend,Gz⟩=>?_);clear F;have ZL:x<w.heap.size:=au x0;have J:=Ku (ly:=ly) (d:=d) (i:=i) (x:=x) (en:=en) (eb:=eb) (b:=b) (c:=c) (cs:=cs) (v:=v) Ct T hF.left hB ZL;generalize V:(⟨κ,s.l.wl,x,bg,c,cs,R',v,ly,b,(s.l.tk t).a,s.l.us t,(s.l.tk t).q⟩:A7)=q at J;have ZA:q.κ=κ:=by rw[<-V]
 have qx:q.x=x:=by rw[<-V]
 have qc:q.c=c:=by rw[<-V]
 have qs:q.cs=cs:=by rw[<-V]
 have GG':=mT (cc:=R.cc) H.hA H.iA J.n5;have E:(p.σ.ld R t q).st=(⟨x,0,none⟩,ptr (R.k.T t))::p.σ.st:=by simp only[Gd.ld,qx]
 have hK':KD R.wI R.k.A R.cc (p.σ.ld R t q).st w:=by rw[E];exact⟨hK.1,vY x0 hK.2.1,hK.2.2⟩
 have N9:∀w,KD R.wI R.k.A R.cc (p.σ.ld R t q).st w->KD R.wI R.k.A R.cc p.σ.st w:=λw h=>by rw[E]at h;exact⟨h.1,Gn (λy hy=>aO _ hy) (λ_ h=>h) h.2.1,h.2.2⟩
 refine fG.less GG' N9 hK' ?_
 have kx:∀w,KD R.wI R.k.A R.cc (p.σ.ld R t q).st w->w.cell? ⟨x,0,none⟩=some (ptr (R.k.T t))/\w.cell? ⟨R.k.T t,3,none⟩=some (.chan (some (R.k.aR t))):=λw h=>by
  rw[E]at h;exact⟨h.2.1.1 _ (bS ..),h.2.1.1 _ (aO _ (c0.sT t C.tn))⟩
 obtain⟨nh,hgo⟩:=Gz (KD R.wI R.k.A R.cc (p.σ.ld R t q).st) (wO (NF (R.k.T t) (R.k.aR t) x)) w.heap.size w kx ⟨⟨_,bS ..,rfl⟩,ZL⟩ ⟨⟨_,aO _ (bS ..),rfl⟩,au t0⟩;have L:R.k.bI∈R.cc:=by simp[RN.cc]
 have uT:∀c'∈R.cc,∃k',w.heap[c']? =some (.chan 0 #[] false k' k' false):=hK.2.1.2;have Ve:R.k.aR t∈R.cc:=by simp[RN.cc];exact .inr (.inr ⟨t,C.tn,rfl⟩)
 have J4:Sat (jN R p.σ) w (pM (s.uD t ly d i x en eb b)++(own (R.k.T t) (ir q)++cO R p.σ s)):=by
  have Q:Sat (jN R p.σ) w (bR x [ptr (R.k.T t),i6 0]::(pM (s.cY t ly d i x en eb)++(fI (R.k.T t) v false::(R'++cO R p.σ s)))):=hS.perm (by
   have:=iP [bR x [ptr (R.k.T t),i6 0]] (pM (s.cY t ly d i x en eb)++[fI (R.k.T t) v false]) (R'++cO R p.σ s)
   simpa using this.symm)
  refine Q.Nj.perm ?_;have:=iP [oR x 1 [i6 0] true,oR x 0 [ptr (R.k.T t)] false] (pM (s.cY t ly d i x en eb)++[fI (R.k.T t) v false]) (R'++cO R p.σ s);rw[<-V]
  show List.Perm _ (pM (s.cY t ly d i x en eb)++_)
  simpa [own]using this
 have LH:oR x 0 [ptr (R.k.T t)] false∈pM (s.uD t ly d i x en eb b)++(own (R.k.T t) (ir q)++cO R p.σ s):=by rw[<-V];simp[own]
 have OP:Sat (jN R (p.σ.ld R t q)) w (pM (s.uD t ly d i x en eb b)++cO R (p.σ.ld R t q) s):=by
  have Q:=J4.still (u:=ptr (R.k.T t)) LH;rw[<-E]at Q;exact Q.perm ((Eg C.tn C.lv q s).symm.append_left _)
 have hPt:PV (jN R (p.σ.ld R t q)) (s.uD t ly d i x en eb b) (bQ (s.uD t ly d i x en eb b)):=by
  have h0:PV (jN R p.σ) (s.uD t ly d i x en eb b) (bQ (s.uD t ly d i x en eb b)):=⟨hP.jr,hP.en,hP.eo,hP.fb⟩;have Q:=h0.still (u:=ptr (R.k.T t)) J4 LH (λr hr=>kX _ (kX _ (lE _ hr)));rw[<-E]at Q;exact Q
 refine fG.yG (Q':=QD R.k.A) (j:=0) (c:=R.k.bI) (kk:=0) (s:=lJ R) (v:=.agg #[]) (a₂:=a) GG' c0.Dx
  {kc:=λw k h=>vZ H.iw L h
   jh:=by omega
   jn:=c0.Lz
   hj:=C.i0
   hk:=⟨_,rfl⟩
   run:=sD
   send:=⟨.tuple #[],#[],λd m _=>by rw[S];exact hsend _,by simp⟩
   ch:=uT _ L} (sh:=lK (R.k.aR t) c cs) (A5:=wO (NF (R.k.T t) (R.k.aR t) x)) (nh:=nh+1) (Seat.one_wf _ _ _ _) (λl hl=>⟨vB hl,λz=>?_⟩) (.inl ⟨nh,w,rfl,by rw[S];exact hgo⟩) (λc' Y=>by rw[mg Y];exact uT _ Ve) (λg' O c' Q h2 h3 h4 h5=>?_) (λk' U W hh Ts=>?_) (λk' W Ts=>FN Ts (Kp.chan W) (by simp))
 .obtain⟨y,hy,rfl⟩:=hl
  simp only[NF,ak,bB,or_false]at hy;rcases hy with rfl|rfl<;>exact pg (by decide) (by decide) z
 .obtain⟨j,I,hj,n,nA,Y⟩:=c0.inj h2 h3 h5
  have e1:=mg h4;have hjt:j=t:=H.ti j hj t C.tn (by rw[<-Y,e1]);rw[hjt,C.lv]at n;cases n
 .have kc:Kp [] w (w.setChan R.k.bI 0 #[] false (k'+1) (k'+1) false):=Kp.chan W
  have Fp:=J.Mg (Post:=Post) H 0;have eI:(p.σ.ld R t q).Inb=Go.ConcN.upd (Go.ConcN.upd p.σ.Inb κ (some (lK (R.k.aR t) c cs))) 0 none:=by simp only[Gd.ld,ZA,qc,qs]
  have eS:(p.σ.ld R t q).St=Go.ConcN.upd p.σ.St κ (wO (NF (R.k.T t) (R.k.aR t) x)):=by simp only[Gd.ld,ZA,qx]
  rw[<-eI,<-eS];refine hh 0 (by omega) (λg=>wT R Post (p.σ.ld R t q) 0 g _) (sQ Fp _) (λg' Qm=>?_);refine IH m (by omega) (p.σ.ld R t q) (s.uD t ly d i x en eb b) _ g' (by rw[pe];exact J) (λj hj=>?_) (by rw[eI];exact Go.ConcN.upd_same ..) ?_ (OP.RP kc) hPt ⟨hQ.lt,hQ.all,hQ.Bw,hQ.ws⟩ wj (λj I hj n=>?_) Qm
  .by_cases e:j=t
   .subst e;show cu p.σ.tk j (ir q) j≠lg;rw[aY];exact λz=>by cases z
   .show cu p.σ.tk t (ir q) j≠lg;rw[bZ _ _ e];exact C.ZB j hj e
  .show p.σ.L=sumTo R.n (λj=>wU (cu p.σ.tk t (ir q) j))
   have h2:=sumTo_upd p.σ.tk (ir q) wU C.tn;rw[C.lv]at h2;have h3:=C.L;simp only[wU,Gd.pk]at h2 h3;unfold cu;simp only[wU]at h3 ⊢;omega
  .by_cases e:j=t
   .subst e
    have:I=q:=by
     have h9:cu p.σ.tk j (ir q) j=ir I:=n;rw[aY]at h9;cases h9;rfl
    subst this;refine nI.of λZ GM σ1 s1 w1 C1 sat pv qi fo f1 f2 f3 f4 f5 rs=>?_
    rw[<-V]at C1 sat fo f1 f2 f3 f4 f5 ⊢;exact K ⟨σ1,s1,w1.heap.size,Z,C1,rs,by omega⟩ s1 w1 Z GM (az _) ⟨sat,pv,qi,hF.left.app (C1.co.flat H),T,az _,Gu.refl _ _,C1.co.hk,C1.co.q9 H⟩ fo f1 f2 f3 f4 f5
   .have h9:cu p.σ.tk t (ir q) j=ir I:=n
    rw[bZ _ _ e]at h9;exact(p.rs j I hj h9).mono hm
theorem O0(H:vk R)(S:∀m,m<Λ->vi R Post m)(q:t<R.n):l7 (eD R Post Λ t κ bg) R.k R.Lf t:=
 {V:=H.V
  tn:=q
  f:=λp=>by
   have F:=p.Pk.co.Mg (Post:=Post) H κ;have h:(κ==0)=false:=by have:=p.Pk.zw;simp;omega
   rw[h]at F;exact F
  hB:=λp=>p.Pk.co.hB H
  wait:=λp s w i x en eb ly d b c cs R' v m Q _ _ _ E J G L n hB e y K=>Nb H S p s w i x en eb ly d b c cs R' v m Q E J G L n hB e y K}
end
theorem Pb(w:aj):(binOp .eql 20 .nilIface .nilIface).events prog w #[]=#[]:=by kernel_rfl
theorem Pa(w:aj):(binOp .neq 20 .nilIface .nilIface).events prog w #[]=#[]:=by kernel_rfl
def Uw(A T bE bg bt X:Nat)(fr:aE)(cs:cW):Prop:=∀(Ok:dw)(Ψ:gi)(w3:aj)(u:ay),aC prog false (DX Ok) Ψ->w3.cell? ⟨bt,0,none⟩=some (.pointer (some ⟨T,0,none⟩))->w3.cell? ⟨X,0,none⟩=some (.pointer (some ⟨A,0,none⟩))->w3.cell? ⟨A,4,none⟩=some (.chan (some bE))->w3.cell? ⟨T,7,none⟩=some u->w3.frozen? ⟨T,7,none⟩=false->
 Ok ⟨bt,0,none⟩ false->Ok ⟨X,0,none⟩ false->Ok ⟨A,4,none⟩ false->Ok ⟨T,7,none⟩ true->(∀gE w4,UP A bE bg gE->Kp [] w3 w4 [⟨T,7,none⟩]->Ψ gE w4)->Ψ (G (fr.finish (.tuple #[])) cs) w3
theorem Nf{Ψ:gi}(F:aC prog false (DX Ok) Ψ)(A T bE bg bf bw bt X bl bo bi:Nat)(w0:aj)(iK:w0.cell? ⟨bf,0,none⟩=some (.func (.func 62) #[] #[.pointer (some ⟨bw,0,none⟩),.pointer (some ⟨bt,0,none⟩),.pointer (some ⟨X,0,none⟩)]))(Y:w0.cell? ⟨bw,0,none⟩=some (.func (.func 37) #[] #[.pointer (some ⟨bl,0,none⟩),.pointer (some ⟨bo,0,none⟩),.pointer (some ⟨bi,0,none⟩)]))(Z:w0.cell? ⟨bt,0,none⟩=some (.pointer (some ⟨T,0,none⟩)))(o1:Ok ⟨bf,0,none⟩ false)(o2:Ok ⟨bw,0,none⟩ false)(o3:Ok ⟨bt,0,none⟩ false)(hc:∀fr cs,Uw A T bE bg bt X fr cs->Ψ (G (Frame.enter prog 37 #[.pointer (some ⟨T,0,none⟩),.pointer (some ⟨bl,0,none⟩),.pointer (some ⟨bo,0,none⟩),.pointer (some ⟨bi,0,none⟩)] .normal) (fr::cs)) w0):Ψ (born prog (call89 bg bf)) w0:=by
 refine(sQ F w0).step _ _ rfl (λw _=>⟨#[],Pq bg bf w,by simp⟩) ?_;unfold AY;refine F.cw ?_;refine F.aF ?_;try walk_nrm
 refine F.HH rfl rfl (by decide) rfl rfl rfl ?_;walk_nrm;refine F.D3 ?_;refine F.ol rfl rfl rfl λd K h=>?_;go_simp;refine h _ (λe m=>?_) ?_;simp[go_sem, *]at m;subst m;exact jB (w:=w0) (by assumption) (by first|assumption|(apply n<;>dsimp only<;>omega));clear h K d;try walk_nrm
 refine F.AP rfl rfl (by decide) rfl rfl func62 (by rfl) (by rfl) ?_;try walk_nrm
 rw[enter_at _ func62 rfl];simp only[ntmps62,oP,Nat.reduceAdd,Nat.reduceSub];refine F.cw ?_;refine F.ol rfl rfl rfl λd K h=>?_;go_simp;refine h _ (λe m=>?_) ?_;simp[go_sem, *]at m;subst m;exact jB (w:=w0) (by assumption) (by first|assumption|(apply n<;>dsimp only<;>omega));clear h K d;try walk_nrm
 refine F.ol rfl rfl rfl λd K h=>?_;go_simp;refine h _ (λe m=>?_) ?_;simp[go_sem, *]at m;subst m;exact jB (w:=w0) (by assumption) (by first|assumption|(apply n<;>dsimp only<;>omega));clear h K d;try walk_nrm
 refine F.AP rfl rfl (by decide) rfl rfl func37 (by rfl) (by rfl) ?_;try walk_nrm
 refine hc _ _ ?_;clear F iK Y Z o1 o2 o3 hc;intro Ok Ψ Q u F q J L E iG o4 o5 o6 o7 hE;have t6:=Pa;have t7:=Pb;have V:Kp [] Q Q [⟨T,7,none⟩]:=Kp.refl _;rw[bO];try walk_nrm
 refine F.dh ?_;refine F.ol rfl rfl rfl λd K h=>?_;go_simp;refine h _ (λe m=>?_) ?_;simp[go_sem, *]at m;subst m;exact jB (w:=Q) (by assumption) (by first|assumption|(apply n<;>dsimp only<;>omega));clear h K d;try walk_nrm
 iterate 2 (refine F.aF ?_;try walk_nrm)
 refine F.op rfl rfl (by decide) (λd K hK=>?_);go_simp;rw[setCell_at'];refine hK _ _ ⟨DX.set _ (by(first|assumption|(apply n<;>dsimp only<;>omega))) (λe he=>?_),?_⟩
 .have hm:=mem_listed he
  simp[go_sem,storedEv,ey,fQ,ez,gW,fF, *]at hm;subst hm;exact .inl ⟨_,rfl,rfl,by(first|assumption|(apply n<;>dsimp only<;>omega)),by simp only[iE,size_set];first|omega|exact au (by assumption)⟩
 clear hK K d;try walk_nrm
 generalize p:World.setCell Q _ _=S;have V0:=lI p;replace iG:=dV iG p;replace J:=dK J p (by simp<;>omega);replace L:=dK L p (by simp<;>omega);replace q:=dK q p (by simp<;>omega);replace E:=jC E p;replace V:=V.Bv p (by first|(left;simp;done)|(right;left;simp;done)|(right;right;dsimp only;omega));refine F.D3 ?_;refine F.ol rfl rfl rfl λd K h=>?_;go_simp;refine h _ (λe m=>?_) ?_;simp[go_sem, *]at m;subst m;exact jB (w:=S) (by assumption) (by first|assumption|(apply n<;>dsimp only<;>omega));clear h K d;try walk_nrm
 iterate 2 (refine F.aF ?_;try walk_nrm)
 refine F.ol rfl rfl rfl λd K h=>?_;go_simp;refine h _ (λe m=>?_) ?_;simp[go_sem, *]at m;subst m;exact jB (w:=S) (by assumption) (by first|assumption|(apply n<;>dsimp only<;>omega));clear h K d;try walk_nrm
 refine F.aF ?_;try walk_nrm
 refine hE _ S ⟨rfl,λd=>?_,λKK h5 H=>?_⟩ V
 .rw[stepG_comm (cases:=#[scase bE (.agg #[]) (.tuple #[])]) (blocking:=true) (shape:=.send) (w':=d) rfl rfl (by decide) (by simp[execOp,scase,Act.eval])]
  rw[listed_nil (by simp[go_sem,execOp,Act.eval])]
 clear F;have F:=r8 (P:=prog) (K:=KK) (Gp:=gU A) 0;rw[served_fr,bO];try walk_nrm
 refine F.re ?_;refine F.ctl (λ_=>stepG_end) ?_;refine F.bJ rfl rfl func62 (resultsC_none (by rfl) _) ?_;rw[bO];try walk_nrm
 refine F.re ?_;refine F.ctl (λ_=>stepG_end) ?_;refine F.ctl (λ_=>mP rfl func90 (by rfl) rfl) ?_;simp only[ntmps90,oP,Nat.reduceAdd,Nat.reduceSub];refine F.sq ?_;refine F.cw ?_;refine F.ctl (λ_=>jJ rfl rfl rfl rfl rfl rfl) ?_;walk_nrm;refine F.aF ?_;try walk_nrm
 refine F.dh ?_;iterate 2 (refine F.oq rfl rfl rfl (λw y=>by first|(simp[go_sem];done)|simp[go_sem,Instr.makeInterface,Instr.makeFunc, *]) (λw y=>by go_simp;first|exact⟨rfl,rfl⟩|exact rfl) ?_;try walk_nrm)
 refine F.re ?_;refine F.cf rfl ?_;refine F.sk ?_;refine F.zW ?_
 apply F.opn rfl rfl (by decide)
 .intro w y
  exact tW (ad:=⟨bg,0,none⟩) (by kernel_rfl) (by simp[go_sem,H w y])
 .intro w y
  have W:=H w y;go_simp
  first|exact⟨rfl,rfl⟩|exact rfl
 try walk_nrm
 refine F.enter rfl rfl (by decide) (λ_=>run_call_body rfl func91 (by rfl) (by rfl)) (λ_=>events_call_body rfl func91 (by rfl) (by rfl) _) ?_;walk_nrm;rw[enter_at _ func91 rfl];simp only[ntmps91,oP,Nat.reduceAdd,Nat.reduceSub];refine F.zW ?_;refine F.aF ?_;try walk_nrm
 refine F.enter rfl rfl (by decide) (λ_=>run_call_body rfl func88 (by rfl) (by rfl)) (λ_=>events_call_body rfl func88 (by rfl) (by rfl) _) ?_;walk_nrm;refine Ec A h5 _ _ ?_;clear F;have F:=om (P:=prog) 0;rw[bO];try walk_nrm
 refine F.re ?_;refine F.ctl (λ_=>stepG_end) ?_;refine F.bJ rfl rfl func91 (resultsC_none (by rfl) _) ?_;rw[bO];try walk_nrm
 refine F.re ?_;refine F.ctl (λ_=>stepG_end) ?_;refine F.ctl (λw=>stepG_leave_deferred rfl rfl func90 (resultsC_none (by rfl) _ w).1 (resultsC_none (by rfl) _ w).2 rfl) ?_;exact Jj _
theorem mj{s:PS}{es:jg}{b i0:Nat}{q:aJ}{j0:Ix}(h:Sat Ok w (pM s++C))(P:PV Ok s es)(S:Flat C)(J:nth (pM s++C) i0=some q)(V:i0≠1)(T:i0≠3)(hj:q.has j0)(L:q.ad j0=⟨b,0,none⟩):
 ∀r∈pM s++C,∀g e n,r.row=some (g,e,n)->b≠g:=by
 intro r p g e n d F;subst F;rcases dZ.1 p with p|p
 .simp only[pM,ak,bB,or_false]at p
  rcases p with rfl|rfl|rfl|rfl|rfl|rfl|rfl
  .cases d
  .obtain⟨y,H,_⟩:=h.row 1 _ rfl b e n d
   have:=(h.sep 1 _ i0 q rfl J rfl (0,0) j0 y hj (by rw[L];have Q:s.eb.E=b:=H;rw[<-Q])).1;exact V this.symm
  .cases d
  .obtain⟨y,H,_⟩:=h.row 3 _ rfl b e n d
   have E:s.ea=some ⟨b,0,none⟩:=by
    rcases P.jr.row with ⟨z,_⟩|⟨g,G,_⟩
    .rw[z]at d;cases d
    .rw[G]at d;simp at d;rw[G,d.1]
   have:=(h.sep 3 _ i0 q rfl J rfl (0,0) j0 y hj (by
    rw[L]
    show((s.ea.getD ⟨0,0,none⟩).add (0*5)).add 0=_
    rw[E];show((⟨b,0,none⟩:Addr).add (0*5)).add 0=_;rw[add_add])).1
   exact T this.symm
  .cases d
  .cases d
  .cases d
 .rw[bN.1 S r p]at d;cases d
theorem eY.pre{h:ay}{L:List iF}(x:eY C h L)(A:aX):eY (C++A) h L:=by
 rcases x with x|⟨ca,cap,i,e,d⟩
 .exact .inl x
 .exact .inr ⟨ca,cap,i,e,by rw[bV,ah (qO _ _ _ d)];exact d⟩
def Gd.pW(σ:Gd)(R:RN)(t:Nat)(X:aX):Gd:={σ with L:=σ.pk R,Inb:=cu σ.Inb 0 none,tk:=cu σ.tk t Cv,dn:=X++σ.dn}
section
variable{R:RN}{σ:Gd}{s O:PS}
theorem FY(hl:σ.tk t=lg):nq R (cu σ.tk t Cv)=nq R σ.tk:=by
 unfold nq
 congr 1
 funext j
 by_cases e:j=t
 .subst e;rw[aY,hl];rfl
 .rw[bZ _ _ e]
theorem vA(d:TQ->Nat)(e:d Cv=d lg)(n:t<R.n)(hl:σ.tk t=lg):sumTo R.n (λj=>d (cu σ.tk t Cv j))=sumTo R.n λj=>d (σ.tk j):=by
 have h:=sumTo_upd σ.tk Cv d n;rw[hl,e]at h;exact Nat.add_right_cancel h
theorem Pm(C:zi R σ s B t κ bg){X:aX}(hX:Flat X)(hB:B<=B')(T:eY X (s.oh t) (s.l.ou t).b.ch):Co R (σ.pW R t X) s B':=by
 have c0:=C.co;have E:∀j,j≠t->(σ.pW R t X).tk j=σ.tk j:=λj hj=>bZ _ _ hj
 have W:∀j,(σ.pW R t X).tk j=none\/(∃q,(σ.pW R t X).tk j=ir q)->j≠t:=λj h e=>by
  have h9:(σ.pW R t X).tk t=Cv:=aY ..;rw[e,h9]at h;rcases h with h|⟨q,h⟩<;>cases h
 have f1:(σ.pW R t X).fr R=σ.fr R:=vA uh rfl C.tn C.lv;have f2:(σ.pW R t X).pk R=σ.pk R:=vA wU rfl C.tn C.lv;refine⟨c0.hk,c0.Lz,aT c0.IB hB,c7 c0.AB hB,λp hp=>?_,c0.sA,c0.sT,λg y J H=>?_,λg e J H=>?_,λj I hj d=>?_,λj hj=>?_,c0.ql,λF L V=>?_,c0.T8,?_,?_,λj hj Z=>?_,hX.app c0.T9,by obtain⟨Y,e⟩:=c0.dW;exact⟨X++Y,by show X++σ.dn=_;rw[e,fM]⟩⟩
 .have:=c0.st p hp;exact⟨this.1,this.2.1,c7 this.2.2 hB⟩
 .have n:(cu σ.Inb 0 none g).isSome:=J
  by_cases e0:g=0
  .subst e0;rw[aY]at n;cases n
  .rw[bZ _ _ e0]at n;exact c0.Ni g y n H
 .have n:cu σ.Inb 0 none g=some e:=J
  rw[bZ _ _ H]at n;obtain⟨j,I,hj,d,S⟩:=c0.zo g e n H;exact⟨j,I,hj,by rw[E j (λz=>by rw[z,C.lv]at d;cases d)];exact d,S⟩
 .have e:=W j (.inr ⟨I,d⟩)
  rw[E j e]at d;have P:=c0.pk j I hj d;exact{P with zo:=by show cu σ.Inb 0 none I.κ=_;rw[bZ _ _ (by have:=P.zw;omega)];exact P.zo}
 .obtain⟨F,J,H,G⟩:=c0.mK j hj
  have Q:F≠t:=λz=>by
   rw[z,C.lv]at G;rcases G with ⟨_,G⟩|⟨_,q,G,_⟩<;>cases G
  exact⟨F,J,H,by rw[E F Q];exact G⟩
 .have e:=W F V
  rw[E F e]at V;exact c0.all F L V
 .rw[f1,f2];exact c0.cnt
 .rw[f1];exact c0.nb
 .by_cases e:j=t
  .subst e;exact(T.pre σ.dn).pre R.S
  .rw[E j e]at Z
   have:=(c0.ed j hj Z).app X;rw[<-fM]at this;exact this
theorem T1(H:vk R)(IH:∀m,m<Λ->vi R Post m)(p:UD R Post Λ t κ bg){J:aW}{X:aX}(hE:UP R.k.A R.k.bE bg J)(g1:Gu t p.s0 s)(hS:Sat (jN R p.σ) w (pM s++((X++R')++cO R p.σ s)))(hP:PV (jN R p.σ) s (bQ s))(hQ:QI s)(hF:Flat ((X++R')++za R p.σ))(hB:p.B<=w.heap.size)(y:Fin R.k.V R.Lf m none s.l)(hm:m<=p.qT)(n:eY X (s.oh t) (s.l.ou t).b.ch):wT R Post p.σ κ J w:=by
 have C:=p.Pk;have c0:Co R p.σ s p.B:=C.co.gu C.lv g1 g1.wl;have Ct:zi R p.σ s p.B t κ bg:={C with co:=c0};have L:=C.zw;have S:(κ==0)=false:=by simp;omega
 have W7:=p.lt;have GG:=mT (cc:=R.cc) H.hA H.iA c0.n5;refine fG.assume GG λhK hQ6=>?_
 have F:=Pm (X:=X) Ct hF.left.left hB n;have q:R.k.bE∈R.cc:=by simp[RN.cc]
 obtain⟨nh,Y⟩:=hE.dp (KD R.wI R.k.A R.cc p.σ.st) (λW h=>h.2.2.1) (λW h=>h.2.1.1 _ C.bg);have f2:(p.σ.pW R t X).pk R=p.σ.pk R:=vA wU rfl C.tn C.lv
 have Z:Sat (jN R (p.σ.pW R t X)) w (pM s++cO R (p.σ.pW R t X) s):=by
  have h1:Sat (jN R p.σ) w (pM s++(X++cO R p.σ s)):=hS.sub (nR (by rw[fM];exact nR (EQ _ _) _) _)
  have e:cO R (p.σ.pW R t X) s=(gS s++nq R p.σ.tk)++(X++(p.σ.dn++R.S)):=by
   show gS s++(nq R (cu p.σ.tk t Cv)++((X++p.σ.dn)++R.S))=_
   rw[FY C.lv,fM,fM]
  rw[e];refine h1.perm (kv _ ?_);have:=iP X (gS s++nq R p.σ.tk) (p.σ.dn++R.S);rw[fM (gS s)]at this;exact this
 have key:fG prog Post (KD R.wI R.k.A R.cc p.σ.st) (QD R.k.A) (jl R.l) p.σ.St p.σ.Inb (gU R.k.A) (p.σ.pk R+1) p.σ.nb κ p.σ.ng 0 J w:=by
  refine fG.He (Q':=QD R.k.A) (j:=0) (c:=R.k.bE) (kk:=1) (s:=lJ R) (v:=.agg #[]) (a₂:=J) GG c0.Dx
   {kc:=λw k h=>vZ H.ie q h
    jh:=by omega
    jn:=c0.Lz
    hj:=C.i0
    hk:=⟨_,rfl⟩
    run:=hE.run
    send:=⟨.tuple #[],#[],λd m _=>by rw[S];exact hE.send _,by simp⟩
    ch:=hK.2.1.2 _ q} L Y (λQ U n hh E=>?_) (λQ n E=>FN E (Kp.chan n) (by simp))
  have kc:Kp [] w (w.setChan R.k.bE 0 #[] false (Q+1) (Q+1) false):=Kp.chan n;have Fp:=F.Mg (Post:=Post) H 0;refine hh 1 (by omega) (λg=>wT R Post (p.σ.pW R t X) 0 g _) (sQ Fp _) (λg' V=>?_);refine IH m (by omega) (p.σ.pW R t X) s _ g' (by rw[pe];exact F) (λj hj=>?_) (aY p.σ.Inb 0 none) f2.symm (Z.RP kc) hP hQ y (λj I hj T=>?_) V
  .by_cases e:j=t
   .subst e;show cu p.σ.tk j Cv j≠lg;rw[aY];exact λz=>by cases z
   .show cu p.σ.tk t Cv j≠lg;rw[bZ _ _ e];exact C.ZB j hj e
  .have G:cu p.σ.tk t Cv j=ir I:=T
   by_cases e:j=t
   .rw[e,aY]at G;cases G
   .rw[bZ _ _ e]at G
    exact(p.rs j I hj G).mono hm
 rw[<-C.L]at key;exact key
theorem Has.rd{b o:Nat}(h:Sat Ok w M)(d:Has M (oR b o (v::vs) false)):Ok ⟨b,o,none⟩ false:=by
 obtain⟨_,i,e⟩:=d;exact(h.ok i _ e (0,0) ⟨aG,by simp⟩).1
theorem Ng(H:vk R)(IH:∀m,m<Λ->vi R Post m)(p:UD R Post Λ t κ bg){bf bw bt:Nat}(C:Cn (eD R Post Λ t κ bg) R.k t p s w v R')(hf:Fin R.k.V R.Lf m (some (t,0,none)) s.l)(hm:m<=p.qT)(T:∀r,Has R.S r->Has R' r)(S:Has R' (oR bf 0 [.func (.func 62) #[] #[ptr bw,ptr bt,ptr X]] false))(Q:Has R' (oR bw 0 [.func (.func 37) #[] #[ptr R.bl,ptr R.bo,ptr (R.bi t)]] false))(y:Has R' (oR bt 0 [ptr (R.k.T t)] false))(hX:Has R' (oR X 0 [ptr R.k.A] false)):wT R Post p.σ κ (born prog (call89 bg bf)) w:=by
 have W:=O0 (κ:=κ) (bg:=bg) (Post:=Post) H IH p.Pk.tn;have ht:=p.Pk.tn;have pr:∀{r},Has R' r->Has (pM s++(fI (R.k.T t) v false::(R'++(eD R Post Λ t κ bg).P p s))) r:=λh=>(h.pre _).cons.app _
 refine Nf (W.f p) R.k.A (R.k.T t) R.k.bE bg bf bw bt X R.bl R.bo (R.bi t) w (Has.sat C.sat (pr S)) (Has.sat C.sat (pr Q)) (Has.sat C.sat (pr y)) (Has.rd C.sat (pr S)) (Has.rd C.sat (pr Q)) (Has.rd C.sat (pr y)) λfr cs hT=>?_
 refine M7 W C hf hm (T _ H.JZ) (T _ (H.hbi t ht)) (T _ H.L6) λm' G O w' Y V b ho hl hc GM uR C' Ik Z gI=>?_
 have d:∀{r},Has R' r->Has (pM (O.fin t b (.slice ho hl hc))++(fI (R.k.T t) Y false::((V++R')++(eD R Post Λ t κ bg).P G (O.fin t b (.slice ho hl hc))))) r:=λh=>((h.app V).pre _).cons.app _
 obtain⟨_,J,E⟩:=d (T _ H.ch);have h4:=C'.sat.val J _ E (0,1) ⟨aG,(by decide:1<2)⟩;have o4:=(C'.sat.ok J _ E (0,1) ⟨aG,(by decide:1<2)⟩).1;have L:nth (pM (O.fin t b (.slice ho hl hc))++(fI (R.k.T t) Y false::((V++R')++(eD R Post Λ t κ bg).P G (O.fin t b (.slice ho hl hc))))) 7=some (fI (R.k.T t) Y false):=rfl;have h7:=C'.sat.val 7 _ L (0,3) ⟨aG,(by decide:3<4)⟩;have o7:=(C'.sat.ok 7 _ L (0,3) ⟨aG,(by decide:3<4)⟩).2 rfl;refine hT _ _ w' _ (W.f G) (Has.sat C'.sat (d y)) (Has.sat C'.sat (d hX)) h4 h7 o7.2 (Has.rd C'.sat (d y)) (Has.rd C'.sat (d hX)) o4 o7.1 λgE w4 hE k4=>?_
 obtain⟨_,Wq,q⟩:=d (T _ ((H.fJ (xj ht)).nL t ht));have hr:=mj (b:=R.k.T t) C'.sat C'.pv (C'.YF.cons rfl) q (λz=>by subst z;have h9:=cP (λo=>o.map aJ.wr) q;cases h9) (λz=>by subst z;have h9:=cP (λo=>o.map aJ.wr) q;cases h9) (j0:=(0,0)) ⟨aG,(by decide:0<4)⟩ rfl;refine T1 H IH G hE C'.gu ?_ C'.pv C'.qi C'.fl (aT C'.bd k4.size) Ik uR ?_
 .have h1:=C'.sat.perm (iQ (a:=fI (R.k.T t) Y false) (l₁:=pM (O.fin t b (.slice ho hl hc))) (l₂:=(V++R')++(eD R Post Λ t κ bg).P G (O.fin t b (.slice ho hl hc))))
  have h2:=(dI.1 (sat_iff.1 h1).2).1;refine h1.tail.kp k4 (λr F j hj z=>?_) (λr F g e n hg x hx=>?_)
  .simp only[ak,bB,or_false]at z
   exact h2 r F (.inl rfl) (0,3) j ⟨aG,(by decide:3<4)⟩ hj z.symm
  .simp only[ak,bB,or_false]at hx
   subst hx;refine hr r ?_ g e n hg;rcases dZ.1 F with z|z
   .exact lE _ z
   .exact kX _ (aO _ z)
 .show eY V (upd O.oh t _ t) (upd O.l.ou (O.l.tk t).c.toNat _ t).b.ch
  rw[Z];simp only[upd,tE,if_true];exact gI
end
theorem Ag(ag:Nat->rj):∀n,(cj ag n=-1/\∀j,j<n->(ag j).o=true)\/∃k:Nat,k<n/\cj ag n=k/\(ag k).o=false/\∀j,j<n->(ag j).o=false->j=k\/fU ag k j
 |0=>.inl ⟨rfl,λj hj=>by omega⟩
 |n+1=>by
  unfold cj;rcases Ag ag n with ⟨y,p⟩|⟨k,y,p,E,q⟩
  .rw[y]
   by_cases ho:(ag n).o=false
   .rw[ah ⟨ho,.inl (by omega)⟩]
    refine .inr ⟨n,by omega,rfl,ho,λj hj d=>.inl ?_⟩
    by_cases e:j=n
    .exact e
    .have:=p j (by omega);rw[d]at this;cases this
   .rw[af (λz=>ho z.1)]
    refine .inl ⟨rfl,λj hj=>?_⟩
    by_cases e:j=n
    .subst e;simpa using ho
    .exact p j (by omega)
  .rw[p]
   by_cases hc:(ag n).o=false/\((k:Int)<0\/(ag n).a<(ag (k:Int).toNat).a)
   .rw[ah hc]
    have h:(ag n).a<(ag k).a:=by
     rcases hc.2 with z|z
     .omega
     .simpa using z
    refine .inr ⟨n,by omega,rfl,hc.1,λj hj d=>?_⟩
    by_cases e:j=n
    .exact .inl e
    .refine .inr (.inl ?_)
     rcases q j (by omega) d with z|z|z
     .rw[z];exact h
     .exact Int.lt_trans h z
     .rw[<-z.1];exact h
   .rw[af hc]
    refine .inr ⟨k,by omega,rfl,E,λj hj d=>?_⟩
    by_cases e:j=n
    .subst e
     right
     have:¬((ag j).a<(ag k).a):=λz=>hc ⟨d,.inr (by simpa using z)⟩
     unfold fU;rcases Int.lt_or_eq_of_le (Int.not_lt.1 this)with z|z
     .exact .inl z
     .exact .inr ⟨z,by omega⟩
    .exact q j (by omega) d
theorem nH{ag:Nat->rj}(h:fU ag i j)(d:fU ag j i):False:=by
 unfold fU at h d;omega
theorem NV{s:PS}(Q:QI s)(h:s.q=i::I):cj s.l.ag s.l.al=i:=by
 have d:=Q.lt i (by rw[h];simp);rcases Ag s.l.ag s.l.al with ⟨p,e⟩|⟨k,p,e,E,y⟩
 .have:=e i d.1;rw[d.2]at this;cases this
 .have hk:=Q.all k p E
  rw[h]at hk;rcases ak.1 hk with rfl|hk
  .exact e
  .have n:=Q.Bw
   rw[h]at n;have q:=(dI.1 n).1 k hk;rcases y i d.1 d.2 with z|z
   .rw[e,z]
   .exact(nH q z).elim
theorem F9{s:PS}(Q:QI s)(e:s.q=[]):cj s.l.ag s.l.al=-1:=by
 rcases Ag s.l.ag s.l.al with ⟨d,n⟩|⟨k,d,n,h,p⟩
 .exact d
 .have hk:=Q.all k d h
  rw[e]at hk;cases hk
abbrev PS.c8(s:PS)(i:Nat)(I:aP)(en:ay)(eb:oV):PS:={s with en:=en,eb:=eb,q:=I,l:=s.l.pop i}
theorem iU(s:PS)(i j:Nat)(I:aP)(en:ay)(eb:oV):((s.c8 i I en eb).l.ag j).a=(s.l.ag j).a/\((s.c8 i I en eb).l.ag j).t=(s.l.ag j).t/\((s.c8 i I en eb).l.ag j).w=(s.l.ag j).w/\((s.c8 i I en eb).l.ag j).c=(s.l.ag j).c/\(j≠i->((s.c8 i I en eb).l.ag j).o=(s.l.ag j).o):=by
 show(upd s.l.ag i _ j).a=_/\(upd s.l.ag i _ j).t=_/\(upd s.l.ag i _ j).w=_/\(upd s.l.ag i _ j).c=_/\(j≠i->(upd s.l.ag i _ j).o=_)
 unfold upd
 by_cases e:j=i
 .subst e;simp
 .simp[e]
theorem QI.c8{s:PS}(Q:QI s){i:Nat}{I:aP}(p:s.q=i::I)(en:ay)(eb:oV):QI (s.c8 i I en eb)/\bQ s=ia s i::bQ (s.c8 i I en eb):=by
 have F:=Q.Bw;rw[p]at F;obtain⟨E,G⟩:=dI.1 F;have y:∀j∈I,j≠i:=λj hj e=>by subst e;exact nH (E j hj) (E j hj)
 have n:∀j∈I,j∈s.q:=λj hj=>by rw[p];exact aO _ hj
 refine⟨⟨λj hj=>?_,λj H q=>?_,?_,λj hj=>?_⟩,?_⟩
 .have:=Q.lt j (n j hj)
  exact⟨this.1,by rw[(iU s i j I en eb).2.2.2.2 (y j hj)];exact this.2⟩
 .have d:j≠i:=λe=>by
   subst e;have:((s.c8 j I en eb).l.ag j).o=true:=by show(upd s.l.ag j _ j).o=true;unfold upd;rw[ah rfl]
   rw[this]at q;cases q
  rw[(iU s i j I en eb).2.2.2.2 d]at q;have:=Q.all j H q;rw[p]at this;rcases ak.1 this with z|z
  .exact absurd z d
  .exact z
 .refine G.imp fun{a b} h=>?_
  unfold fU at h ⊢;rw[(iU s i a I en eb).1,(iU s i b I en eb).1];exact h
 .rw[(iU s i j I en eb).2.2.2.1,(iU s i j I en eb).2.2.1];exact Q.ws j (n j hj)
 .unfold bQ
  rw[p,nT]
  congr 1
  refine zA λj hj=>?_
  unfold ia;rw[(iU s i j I en eb).1,(iU s i j I en eb).2.1,(iU s i j I en eb).2.2.1,(iU s i j I en eb).2.2.2.1]
section
variable{Ψ:gi}
theorem Lt(F:aC prog true (DX Ok) Ψ){s:PS}(hB:HB w.heap.size Ok)(hS:Sat Ok w (pM s++C))(T:PV Ok s (bQ s))(hC:Flat C)(Q:QI s)(hq:s.q=i::I)(hg:wP s.k.A cs g){f:FuncId}{fst cp:fW}(he:(ia s i).2=.func (.func f) fst cp)(hf:prog.funcs[f]? =some fn)(V:(fn.name== "runtime.NumGoroutine")=false)(hb:fn.body.isNone=false)(K:∀fr q h d,wR s.k.A cs fr->Kp [] w q [⟨s.k.A,0,none⟩,⟨s.k.A,1,none⟩]->Sat Ok q (pM (s.c8 i I h d)++C)->PV Ok (s.c8 i I h d) (bQ (s.c8 i I h d))->QI (s.c8 i I h d)->Ψ (G (Frame.enter prog f (fst++cp) .normal) (fr::cs)) q):Ψ g w:=by
 have W:=(Q.c8 hq s.en s.eb).2;have J:=T.en;have h0:=hS.val 0 _ rfl (0,0) ⟨aG,(by decide:0<2)⟩;have h1:=hS.val 0 _ rfl (0,1) ⟨aG,(by decide:1<2)⟩;have o0:=hS.ok 0 _ rfl (0,0) ⟨aG,(by decide:0<2)⟩;have o1:=hS.ok 0 _ rfl (0,1) ⟨aG,(by decide:1<2)⟩;have hA:s.k.A<w.heap.size:=au h0
 have Z:s.eb.c=1:=by
  rcases J.2 with ⟨_,z,_⟩|⟨_,_,_,z,_⟩
  .rw[W]at z;cases z
  .exact z
 obtain⟨TA,Xd⟩:=T.eo Z;have hE:eX (s.k.A+1) w s.en (bQ s):=wC hS (i:=1) rfl J (λ_=>TA)
 have L:∀b,b∈bU s.en->b=s.eb.E:=λb hb=>by
  rcases J.2 with ⟨_,z,_⟩|⟨o,c,z1,_⟩
  .rw[W]at z;cases z
  .rw[z1,bq]at hb;simp[Value.ownBlock]at hb;exact hb.symm
 rw[W]at hE
 have hei:ia s i=((s.l.ag i).a,.func (.func f) fst cp):=by
  rw[<-he];rfl
 rw[hei]at hE;refine Rp F (s.k.A+1) s.k.A cs (s.l.ag i).a f fn fst cp _ s.en _ g w hg hf V hb hE (ij _) hA h0 (o0.2 rfl).2 h1 (o1.2 rfl).2 o1.1 (o1.2 rfl).1 (o0.2 rfl).1 (λa ha=>Xd a false (L _ ha)) hB λfr q h Mb k1 b0 z0 b1 z1 As Vf=>?_
 have Of:=mj (b:=s.k.A) hS T hC (i0:=0) (j0:=(0,0)) rfl (by decide) (by decide) ⟨aG,(by decide:0<2)⟩ rfl;have Qs:Sat Ok w (bR s.k.A [i6 s.l.now,s.en]::((pM s).tail++C)):=hS;have Y:=(dI.1 (sat_iff.1 Qs).2).1
 have hT:Sat Ok q ((pM s).tail++C):=by
  refine(Qs.tail).kp k1 (λr p j hj z=>?_) (λr p g e n hg x hx=>?_)
  .simp only[ak,bB,or_false]at z
   rcases z with z|z
   .exact Y r p (.inl rfl) (0,0) j ⟨aG,(by decide:0<2)⟩ hj z.symm
   .exact Y r p (.inl rfl) (0,1) j ⟨aG,(by decide:1<2)⟩ hj z.symm
  .have:=Of r (aO _ p) g e n hg
   simp only[ak,bB,or_false]at hx;rcases hx with rfl|rfl<;>exact this
 have y:∀d:oV,(d=s.eb\/d={s.eb with c:=0})->Sat Ok q (pM (s.c8 i I h d)++C):=λd Z7=>by
  have Tq:Sat Ok q (eR d::((pM s).tail.tail++C)):=by
   rcases Z7 with rfl|rfl
   .exact hT
   .have J3:Sat Ok q (eR s.eb::((pM s).tail.tail++C)):=hT
    rw[sat_iff]at J3 ⊢;refine⟨λr p=>?_,dI.2 ⟨λr p _ j j' hj _=>absurd hj.1 (uA _),(dI.1 J3.2).2⟩⟩;rcases ak.1 p with rfl|p
    .exact⟨λj hj=>absurd hj.1 (uA _),λj hj=>absurd hj.1 (uA _),λ_ j _ hj=>absurd hj.1 (uA _),λg e n z=>by cases z⟩
    .exact J3.1 r (aO _ p)
  show Sat Ok q (bR s.k.A [i6 (s.l.ag i).a,h]::(eR d::((pM s).tail.tail++C)))
  rw[sat_iff]at Tq ⊢
  have E:∀j:Ix,(bR s.k.A [i6 (s.l.ag i).a,h]).has j->j=(0,0)\/j=(0,1):=λj hj=>by
   obtain⟨z1,z2⟩:=hj;have z1':j.1<1:=z1;have z2':j.2<2:=z2;obtain⟨j1,j2⟩:=j
   simp only at z1' z2'
   have:j1=0:=by omega
   subst this;rcases(by omega:j2=0\/j2=1)with rfl|rfl
   .exact .inl rfl
   .exact .inr rfl
  refine⟨λr p=>?_,dI.2 ⟨λr p _ j j' hj H e=>?_,Tq.2⟩⟩
  .rcases ak.1 p with rfl|p
   .refine⟨λj hj=>?_,λj hj=>?_,λ_ j j' hj H e=>?_,λg e n z=>by cases z⟩
    .rcases E j hj with rfl|rfl
     .exact b0
     .exact b1
    .rcases E j hj with rfl|rfl
     .exact⟨o0.1,λ_=>⟨(o0.2 rfl).1,z0⟩⟩
     .exact⟨o1.1,λ_=>⟨(o1.2 rfl).1,z1⟩⟩
    .rcases E j hj with rfl|rfl<;>rcases E j' H with rfl|rfl<;>simp at e ⊢
   .exact Tq.1 r p
  .have yB:∃r',r'∈(pM s).tail++C/\r'.has j'/\r'.ad j'=r.ad j':=by
    rcases ak.1 p with rfl|p
    .rcases Z7 with rfl|rfl
     .exact⟨_,lE _ (bS ..),H,rfl⟩
     .exact absurd H.1 (uA _)
    .exact⟨r,by
      rcases dZ.1 p with z|z
      .exact lE _ (List.mem_of_mem_tail z)
      .exact kX _ z,H,rfl⟩
   obtain⟨r',h1',J6,h3'⟩:=yB;refine Y r' h1' (.inl rfl) j j' ?_ J6 (by rw[h3'];exact e);rcases E j hj with rfl|rfl
   .exact⟨aG,(by decide:0<2)⟩
   .exact⟨aG,(by decide:1<2)⟩
 rcases As with ⟨S,⟨e1,e2⟩|⟨E',off,cap,cur,e1,e2,e3,e4,e5,e6⟩⟩
 .exact K fr q h {s.eb with c:=0} Mb k1 (y _ (.inr rfl)) ⟨T.jr,⟨S,.inl ⟨e1,e2,rfl⟩⟩,λz=>(by cases z),T.fb⟩ (Q.c8 hq _ _).1
 .have Tx:E'=s.eb.E:=L _ (Vf _ (by rw[e1,bq];simp[Value.ownBlock]))
  subst Tx;obtain⟨HL,c1,c2,c3⟩:=wD (y s.eb (.inl rfl)) (i:=1) rfl Z;rw[e4]at c1;cases c1
  have SH:0<s.eb.n:=by
   rcases J.2 with ⟨_,_,z⟩|⟨_,_,_,_,_,_,z,_⟩
   .omega
   .exact z
  refine K fr q h s.eb Mb k1 (y _ (.inl rfl)) ⟨T.jr,⟨S,.inr ⟨off,cap,e1,Z,e2,by omega,SH,λj u hu=>?_⟩⟩,T.eo,T.fb⟩ (Q.c8 hq _ _).1;have h9:=e6 j u hu;have kU:off+j<s.eb.n:=by rw[<-c2];exact(cH.1 h9).1
  rw[c3 _ kU]at h9;exact Option.some.inj h9
end
section
variable{R:RN}{σ σ':Gd}{s:PS}
theorem CD(c0:Co R σ s B)(hq:s.q=i::I)(ht:(s.l.ag i).t=(t:Int))(tn:t<R.n)(LI:∃a b,uh (σ.tk t)=a/\wU (σ.tk t)=b/\a+b=1){eb:oV}{L2:LS}(X8:L2.ag=(s.l.pop i).ag)(qW:L2.al=s.l.al)(JI:L2.wl=s.l.wl)(hw:∀k,(L2.wt k).l=(s.l.wt k).l/\(L2.wt k).b=(s.l.wt k).b)(Z:∀j,j≠t->(L2.tk j).a=(s.l.tk j).a/\(L2.tk j).q=(s.l.tk j).q)(ZP:L2.us=s.l.us)(Xb:L2.ou=s.l.ou)(J:σ'.tk=cu σ.tk t lg)(W:σ'.dn=σ.dn)(L:∀p∈σ.st,p∈σ'.st)(ud:∀p∈σ'.st,p.1.off≠5/\p.1.off≠6/\p.1.block<B')(Qi:σ.ng<=σ'.ng)(hB:B<=B')(hI:∀j G,j<R.n->j≠t->σ.tk j=ir G->σ'.Inb G.κ=σ.Inb G.κ)(XA:∀g e,σ'.Inb g=some e->g≠0->σ.Inb g=some e/\∀G,σ.tk t=ir G->G.κ≠g)(WN:∀g x,(σ'.Inb g).isSome->σ'.St g x->wO σ'.st x)(pO:σ'.nb+σ'.fr R<=9):Co R σ' {s.c8 i I en eb with l:=L2} B':=by
 have H:∀j,j≠t->σ'.tk j=σ.tk j:=λj hj=>by rw[J];exact bZ _ _ hj
 have T:σ'.tk t=lg:=by rw[J];exact aY ..
 have yB:∀j∈I,j∈s.q:=λj hj=>by rw[hq];exact aO _ hj
 have hd:=c0.T8;rw[hq]at hd;obtain⟨d1,d2⟩:=dI.1 hd
 have F:∀j,(L2.ag j).a=(s.l.ag j).a/\(L2.ag j).t=(s.l.ag j).t/\(L2.ag j).w=(s.l.ag j).w/\(L2.ag j).c=(s.l.ag j).c:=λj=>by
  rw[X8];have:=iU s i j I en eb;exact⟨this.1,this.2.1,this.2.2.1,this.2.2.2.1⟩
 refine⟨c0.hk,c7 c0.Lz Qi,aT c0.IB hB,c7 c0.AB hB,ud,λy hy=>L y (c0.sA y hy),λj hj=>L _ (c0.sT j hj),WN,λg e Q S=>?_,λj G hj E=>?_,λj hj=>?_,λj hj=>?_,λV WJ Y=>?_,?_,?_,pO,λj hj he=>?_,by rw[W];exact c0.T9,by rw[W];exact c0.dW⟩
 .obtain⟨z1,z2⟩:=XA g e Q S
  obtain⟨j,G,hj,E,hk⟩:=c0.zo g e z1 S;have d:j≠t:=λz=>z2 G (by rw[<-z];exact E) hk
  exact⟨j,G,hj,by rw[H j d];exact E,hk⟩
 .have d:j≠t:=λz=>by rw[z,T]at E;cases E
  rw[H j d]at E;have P:=c0.pk j G hj E;exact⟨by rw[hI j G hj d E];exact P.zo,P.zw,c7 P.MB Qi,L _ P.bg,L _ P.x,by show _<L2.wl;rw[JI];exact P.wn,P.wb,by rw[(hw _).1];exact P.wl,by rw[(hw _).2];exact P.wk,by rw[(Z j d).1];exact P.a,by show L2.us j=_;rw[ZP];exact P.us,by show(L2.tk j).q=_;rw[(Z j d).2];exact P.tq,P.fJ,P.fl⟩
 .have tj:j∈I:=hj
  obtain⟨V,Q,S,h3⟩:=c0.mK j (yB j tj);have d:V≠t:=λz=>d1 j tj (by rw[ht,S,z])
  refine⟨V,Q,(F j).2.1.trans S,?_⟩
  show((L2.ag j).c=0/\_)\/((L2.ag j).c=1/\∃q,_/\(L2.ag j).w=_)
  rw[(F j).2.2.2,(F j).2.2.1,H V d];exact h3
 .show j<L2.al
  rw[qW];exact c0.ql j (yB j hj)
 .have d:V≠t:=λz=>by
   rw[z,T]at Y;rcases Y with Y|⟨q,Y⟩<;>cases Y
  rw[H V d]at Y;obtain⟨j,hj,Q⟩:=c0.all V WJ Y;rw[hq]at hj;rcases ak.1 hj with rfl|hj
  .rw[ht]at Q;exact absurd (by omega) d
  .exact⟨j,hj,(F j).2.1.trans Q⟩
 .show I.Pairwise λi j=>(L2.ag i).t≠(L2.ag j).t
  refine d2.imp fun{a b} h=>?_
  rw[(F a).2.1,(F b).2.1];exact h
 .show I.length=sumTo R.n (λj=>uh (σ'.tk j))+sumTo R.n (λj=>wU (σ'.tk j))
  have Q:=sumTo_upd σ.tk lg uh tn;have S:=sumTo_upd σ.tk lg wU tn;obtain⟨a,b,e1,e2,e3⟩:=LI;rw[e1]at Q;rw[e2]at S;have h3:=c0.cnt;rw[hq,eG]at h3;simp only[Gd.fr,Gd.pk]at h3;rw[J];have z1:uh lg=0:=rfl;have z2:wU lg=0:=rfl;rw[z1]at Q;rw[z2]at S;unfold cu;omega
 .have d:j≠t:=λz=>by rw[z,T]at he;cases he
  rw[H j d]at he
  show eY (σ'.dn++R.S) (s.oh j) (L2.ou j).b.ch
  rw[W,Xb];exact c0.ed j hj he
def Gd.kY(σ:Gd)(R:RN)(t κ:Nat):Gd:={σ with Inb:=cu (cu σ.Inb 0 (some (lJ R))) κ none,St:=cu σ.St 0 (wO (qy R.k.A R.k.bI R.k.bE)),tk:=cu σ.tk t lg}
theorem Fy(aR:Nat)(c:aE)(cs:cW):(lK aR c cs).has aR:=Seat.one_has.2 rfl
theorem Co.Wp(C:Co R σ s B)(H:vk R){q d:A7}(n:i<R.n)(hj:j<R.n)(F:σ.tk i=ir q)(E:σ.tk j=ir d)(e:d.κ=q.κ):j=i:=by
 have y:=(C.pk i q n F).zo;have h:=(C.pk j d hj E).zo;rw[e,y]at h;have p:=Fy (R.k.aR j) d.c d.cs;rw[<-Option.some.inj h]at p;exact H.ti j hj i n (mg p)
theorem HO(H:vk R)(c0:Co R σ s B)(Z:s.q=i::I)(Y:(s.l.ag i).t=(t:Int))(tn:t<R.n){q:A7}(h:σ.tk t=ir q)(S:∀j,j<R.n->σ.tk j≠lg)(hL:σ.L=σ.pk R)(hB:B<=B'){eb:oV}(wn:Nat):zi R (σ.kY R t q.κ) {s.c8 i I en eb with l:=(s.l.pop i).iD t wn} B' t q.κ q.bg:=by
 have P:=c0.pk t q tn h;have Q:=P.zw
 have f0:(σ.kY R t q.κ).fr R=σ.fr R:=by
  have E:=sumTo_upd σ.tk lg uh tn;rw[h]at E;exact E
 have f1:(σ.kY R t q.κ).pk R+1=σ.pk R:=by
  have E:=sumTo_upd σ.tk lg wU tn;rw[h]at E;exact E
 refine⟨CD c0 Z Y tn ⟨0,1,by rw[h];rfl,by rw[h];rfl,rfl⟩ rfl rfl rfl (λk=>?_) (λj hj=>?_) rfl rfl rfl rfl (λp h=>h) (λp h=>?_) (az _) hB (λj L hj G E=>?_) (λg e E T=>?_) (λg y E T=>?_) (by rw[f0];exact c0.nb),tn,aY ..,λj hj G=>?_,?_,Q,P.MB,aY ..,P.bg,?_⟩
 .show(upd s.l.wt wn _ k).l=_/\(upd s.l.wt wn _ k).b=_
  unfold upd
  by_cases e:k=wn
  .subst e;simp;exact⟨rfl,rfl⟩
  .simp[e]
 .show(upd s.l.tk t _ j).a=_/\(upd s.l.tk t _ j).q=_
  unfold upd;rw[af hj];exact⟨rfl,rfl⟩
 .have:=c0.st p h;exact⟨this.1,this.2.1,c7 this.2.2 hB⟩
 .show cu (cu σ.Inb 0 _) q.κ none L.κ=_
  rw[bZ _ _ (λe=>G (c0.Wp H tn hj h E e)),bZ _ _ (by have:=(c0.pk j L hj E).zw;omega)]
 .have d:cu (cu σ.Inb 0 (some (lJ R))) q.κ none g=some e:=E
  by_cases V:g=q.κ
  .rw[V,aY]at d;cases d
  .rw[bZ _ _ V,bZ _ _ T]at d
   exact⟨d,λL J z=>by rw[h]at J;cases J;exact V z.symm⟩
 .have d:(cu (cu σ.Inb 0 (some (lJ R))) q.κ none g).isSome:=E
  have F:cu σ.St 0 (wO (qy R.k.A R.k.bI R.k.bE)) g y:=T
  show wO σ.st y
  by_cases W:g=0
  .subst W;rw[aY]at F
   obtain⟨p,h,rfl⟩:=F;exact⟨p,c0.sA p h,rfl⟩
  .rw[bZ _ _ W]at F
   by_cases e1:g=q.κ
   .subst e1;rw[aY]at d;cases d
   .rw[bZ _ _ e1,bZ _ _ W]at d
    exact c0.Ni g y d F
 .show cu σ.tk t lg j≠lg
  rw[bZ _ _ G];exact S j hj
 .show cu (cu σ.Inb 0 _) q.κ none 0=_
  rw[bZ _ _ (by omega),aY]
 .show σ.L=_
  rw[hL,<-f1]
theorem pZ(tn:t<R.n)(d:σ'.tk=cu σ.tk t lg)(e:σ'.dn=σ.dn)(s:PS):(cO R σ s).Perm (own (R.k.T t) (σ.tk t)++cO R σ' s):=by
 have h:=(uJ (R:=R) (tk:=σ.tk) tn (b:=false)).append_right (σ.dn++R.S);rw[fM]at h;refine List.Perm.trans (kv (gS s) ?_) (iP ..);unfold za;rw[d,e];exact h
end
section
variable{R:RN}{σ σ':Gd}{s:PS}
theorem Na(H:vk R)(c0:Co R σ s w.heap.size)(Oq:∀j,j<R.n->σ.tk j≠lg)(OR:σ.Inb 0=none)(hL:σ.L=σ.pk R)(hS:Sat (jN R σ) w (pM s++cO R σ s))(hP:PV (jN R σ) s (bQ s))(hQ:QI s)(OA:wP R.k.A (R.cR::R.nG) g)(Eo:∀j q,j<R.n->σ.tk j=ir q->nI R Post (m+1) j q)(hq:s.q=i::I)(ht:(s.l.ag i).t=(t:Int))(tn:t<R.n){q:A7}(hp:σ.tk t=ir q)(hc:(s.l.ag i).c=1)(hw:(s.l.ag i).w=q.wn)(XE:zh R.k.V R.Lf m t q.wn ((s.l.pop i).iD t q.wn)):wT R Post σ 0 g w:=by
 have P:=c0.pk t q tn hp;have zw:=P.zw;have GG:=mT (cc:=R.cc) H.hA H.iA c0.n5;have F:aC prog true (DX (jN R σ)) (wT R Post σ 0):=c0.Mg (Post:=Post) H 0;have LQ:s.k.A=R.k.A:=by rw[c0.hk]
 have he:(ia s i).2=.func (.func 144) #[ptr q.x] #[]:=by
  unfold ia;simp only[hc,hw,tE,P.wb]
  rfl
 refine Lt F (λa wr h=>c0.hB H a wr h) hS hP (c0.Ho H) hQ hq (by rw[LQ];exact OA) he func144 (by rfl) (by rfl) λfr w1 E G Mb k1 Qr Q T=>?_
 rw[LQ]at Mb
 have p:Sat (jN R σ) w1 (pM (s.c8 i I E G)++(own (R.k.T t) (ir q)++cO R (σ.kY R t q.κ) s)):=by
  have:=Qr.perm ((pZ (σ':=σ.kY R t q.κ) tn rfl rfl s).append_left _);rw[hp]at this;exact this
 have Yt:∀{r},Has R.S r->Has (pM (s.c8 i I E G)++(own (R.k.T t) (ir q)++cO R (σ.kY R t q.κ) s)) r:=λh=>((((h.app σ.dn).app _).app _).app _).app _
 have Wi:oR q.x 0 [ptr (R.k.T t)] false∈pM (s.c8 i I E G)++(own (R.k.T t) (ir q)++cO R (σ.kY R t q.κ) s):=kX _ (lE _ (by simp[own]));have Z:oR q.x 1 [i6 0] true∈pM (s.c8 i I E G)++(own (R.k.T t) (ir q)++cO R (σ.kY R t q.κ) s):=kX _ (lE _ (by simp[own]));have J:∀{o:Nat}{v:ay}{wr:Bool},(oR q.x o [v] wr).has (0,0):=⟨aG,aG⟩;have JH:=(p.mem Wi).val (0,0) J;have ox0:=((p.mem Wi).ok (0,0) J).1;have Sa:=(p.mem Z).val (0,0) J;have Y:=(p.mem Z).ok (0,0) J;have Vv:=Has.sat p (Yt ((H.fJ (xj tn)).nL t tn));obtain⟨_,Wq,L⟩:=Yt ((H.fJ (xj tn)).nL t tn);have Vu:=p.val Wq _ L (0,3) ⟨aG,(by decide:3<4)⟩;have oT3:=(p.ok Wq _ L (0,3) ⟨aG,(by decide:3<4)⟩).1;have ZE:q.x≠R.k.T t:=λe=>p.dj Z (gH L) rfl rfl J (j':=(0,1)) ⟨aG,(by decide:1<4)⟩ (by show(⟨q.x,1+0,none⟩:Addr)=⟨R.k.T t,0+1,none⟩;rw[e])
 refine M9 F R.k.A (R.k.T t) q.x R.k.bI R.k.bE (R.k.aR t) fr (R.cR::R.nG) w1 Mb JH Sa (Y.2 rfl).2 Vv Vu ox0 Y.1 (Y.2 rfl).1 (Has.rd p (Yt ((H.fJ (xj tn)).nL t tn))) oT3 ZE (λa S ⟨sD,hsend,Gz⟩ k2=>?_);have k1s:=k1.size;have U8:=k2.size;refine fG.assume GG λEy Yj=>?_
 have uT:∀c'∈R.cc,∃V,S.heap[c']? =some (.chan 0 #[] false V V false):=Ey.2.1.2;have Ve:R.k.aR t∈R.cc:=by simp[RN.cc];exact .inr (.inr ⟨t,tn,rfl⟩)
 obtain⟨nh,hgo⟩:=Gz (KD R.wI R.k.A R.cc σ.st) (wO (qy R.k.A R.k.bI R.k.bE)) S.heap.size S (λw h y hy=>h.2.1.1 y (c0.sA y hy)) (λy hy=>⟨⟨y,hy,rfl⟩,by have:=(c0.st y (c0.sA y hy)).2.2;omega⟩)
 have J4:Sat (jN R σ) S (pM (s.c8 i I E G)++(fI (R.k.T t) q.v false::(q.R++cO R (σ.kY R t q.κ) s))):=by
  have e1:(pM (s.c8 i I E G)++(own (R.k.T t) (ir q)++cO R (σ.kY R t q.κ) s)).Perm (oR q.x 1 [i6 0] true::oR q.x 0 [ptr (R.k.T t)] false::(pM (s.c8 i I E G)++(fI (R.k.T t) q.v false::(q.R++cO R (σ.kY R t q.κ) s)))):=by
   have:=iP [oR q.x 1 [i6 0] true,oR q.x 0 [ptr (R.k.T t)] false] (pM (s.c8 i I E G)++[fI (R.k.T t) q.v false]) (q.R++cO R (σ.kY R t q.κ) s)
   simpa [own]using this.symm
  have h1:=p.perm e1;have h2:=(dI.1 (sat_iff.1 h1).2).1
  have Er:Flat (own (R.k.T t) (ir q)++cO R (σ.kY R t q.κ) s):=by
   have wW:=(c0.Ho H);rw[bN]at wW ⊢;intro r hr;refine wW r ((pZ (σ':=σ.kY R t q.κ) tn rfl rfl s).mem_iff.2 ?_);rw[hp];exact hr
  have hr:∀r∈pM (s.c8 i I E G)++(own (R.k.T t) (ir q)++cO R (σ.kY R t q.κ) s),∀g e n,r.row=some (g,e,n)->q.x≠g:=by
   obtain⟨ix,Xz⟩:=lV Wi;exact mj (b:=q.x) p Q Er Xz (λz=>by subst z;have W:=cP (λo=>o.map aJ.wr) Xz;cases W) (λz=>by subst z;have W:=cP (λo=>o.map aJ.wr) Xz;cases W) (j0:=(0,0)) J rfl
  have h3:Sat (jN R σ) S (oR q.x 0 [ptr (R.k.T t)] false::(pM (s.c8 i I E G)++(fI (R.k.T t) q.v false::(q.R++cO R (σ.kY R t q.κ) s)))):=by
   refine h1.tail.kp k2 (λr W2 j hj z=>?_) (λr W2 g e n hg x hx=>?_)
   .simp only[ak,bB,or_false]at z
    exact h2 r W2 (.inl rfl) (0,0) j J hj z.symm
   .simp only[ak,bB,or_false]at hx
    subst hx;exact hr r (e1.mem_iff.2 (aO _ W2)) g e n hg
  exact h3.tail
 refine fG.yG (Q':=QD R.k.A) (j:=q.κ) (c:=R.k.aR t) (kk:=0) (s:=lK (R.k.aR t) q.c q.cs) (v:=.int .i64 1) (a₂:=a) GG c0.Dx
  {kc:=λw k h=>vZ (H.it t tn) Ve h
   jh:=by omega
   jn:=P.MB
   hj:=P.zo
   hk:=⟨_,rfl⟩
   run:=sD
   send:=⟨.tuple #[],#[],λd m _=>hsend _,by simp⟩
   ch:=uT _ Ve} (sh:=lJ R) (A5:=wO (qy R.k.A R.k.bI R.k.bE)) (nh:=nh+1) (xO H.we _) (λl uR=>⟨vB uR,λz=>?_⟩) (.inl ⟨nh,S,rfl,hgo⟩) (λc' wo=>?_) (λg' O c' h1 h2 h3 h4 h5=>?_) (λV U gI hh Ts=>?_) (λV gI Ts=>FN Ts (Kp.chan gI) (by simp))
 .obtain⟨y,hy,rfl⟩:=uR
  simp only[qy,ak,bB,or_false]at hy;rcases hy with rfl|rfl<;>exact pg (by decide) (by decide) z
 .rcases mh wo with rfl|rfl
  .exact uT _ (by simp[RN.cc])
  .exact uT _ (by simp[RN.cc])
 .obtain⟨j,q1,hj,DG,LR,As⟩:=c0.inj h1 h3 h5
  have:=H.tw j hj;rcases mh h4 with e|e
  .exact this.1 (by rw[<-As,e])
  .exact this.2 (by rw[<-As,e])
 .have kc:Kp [] S (S.setChan (R.k.aR t) 0 #[] false (V+1) (V+1) false):=Kp.chan gI
  have C1:=HO (B':=(S.setChan (R.k.aR t) 0 #[] false (V+1) (V+1) false).heap.size) (en:=E) (eb:=G) H c0 hq ht tn hp Oq hL (by rw[pe];omega) q.wn;have Wt:(q.κ==0)=false:=by simp;omega
  have F1:=C1.co.Mg (Post:=Post) H q.κ;rw[Wt]at F1;refine hh (λg=>wT R Post (σ.kY R t q.κ) q.κ g _) (sQ F1 _) ?_;refine(Eo t q tn hp).2 (σ.kY R t q.κ) {s.c8 i I E G with l:=(s.l.pop i).iD t q.wn} _ C1 (J4.RP kc) ⟨Q.jr,Q.en,Q.eo,Q.fb⟩ ⟨T.lt,T.all,T.Bw,T.ws⟩ XE ?_ ?_ ?_ P.us ?_ (λj q1 hj DG=>?_)
  .show(upd s.l.wt q.wn _ q.wn).l=_
   unfold upd;rw[ah rfl];exact P.wl
  .show(upd s.l.wt q.wn _ q.wn).b=_
   unfold upd;rw[ah rfl];exact P.wk
  .show(upd s.l.tk t _ t).a=_
   unfold upd;rw[ah rfl];exact P.a
  .show(upd s.l.tk t _ t).q=_
   unfold upd;rw[ah rfl];exact P.tq
  .have W:cu σ.tk t lg j=ir q1:=DG
   by_cases e:j=t
   .rw[e,aY]at W;cases W
   .rw[bZ _ _ e]at W
    exact(Eo j q1 hj W).1
end
section
variable{R:RN}{σ σ':Gd}{s:PS}
def Gd.begun(σ:Gd)(R:RN)(t X bg:Nat):Gd:={st:=(⟨X,0,none⟩,ptr R.k.A)::(⟨bg,0,none⟩,Md R.k.A)::σ.st,ng:=σ.ng+1,L:=σ.L+1,nb:=σ.nb+1,Inb:=cu σ.Inb 0 (some (lJ R)),St:=cu σ.St 0 (wO ((⟨X,0,none⟩,ptr R.k.A)::qy R.k.A R.k.bI R.k.bE)),tk:=cu σ.tk t lg,dn:=σ.dn}
theorem Co.dS(c0:Co R σ s B)(tn:t<R.n)(h:σ.tk t=none):σ.nb<=8:=by
 have e:=Go.ConcN.le_sumTo (f:=λj=>uh (σ.tk j)) tn;simp only[h,uh]at e;have d:=c0.nb;simp only[Gd.fr]at d;have n:uh none=1:=rfl;simp only[uh]at e d ⊢;omega
theorem Co.ZK(c0:Co R σ s B):σ.Inb σ.ng=none:=by
 cases e:σ.Inb σ.ng with
 |none=>rfl
 |some x=>
  have h:=c0.Lz;obtain⟨j,q,hj,d,hk⟩:=c0.zo _ x e (by omega);have:=(c0.pk j q hj d).MB;omega
theorem Ee(H:vk R)(c0:Co R σ s B)(Y:s.q=i::I)(W:(s.l.ag i).t=(t:Int))(tn:t<R.n)(J:σ.tk t=none)(Q:∀j,j<R.n->σ.tk j≠lg)(hL:σ.L=σ.pk R)(hB:B<=B')(hX:X<B')(Z:bg<B'){eb:oV}:zi R (σ.begun R t X bg) (s.c8 i I en eb) B' t σ.ng bg:=by
 have V:=c0.Lz
 have f0:(σ.begun R t X bg).fr R+1=σ.fr R:=by
  have q:=sumTo_upd σ.tk lg uh tn;rw[J]at q;exact q
 have f1:(σ.begun R t X bg).pk R=σ.pk R:=by
  have q:=sumTo_upd σ.tk lg wU tn;rw[J]at q;exact q
 have h:∀p∈σ.st,p∈(σ.begun R t X bg).st:=λp d=>aO _ (aO _ d)
 refine⟨CD (L2:=s.l.pop i) c0 Y W tn ⟨1,0,by rw[J];rfl,by rw[J];rfl,rfl⟩ rfl rfl rfl (λk=>⟨rfl,rfl⟩) (λj hj=>⟨rfl,rfl⟩) rfl rfl rfl rfl h (λp d=>?_) (Nat.le_succ _) hB (λj L hj G q=>?_) (λg e q S=>?_) (λg y q S=>?_) (by have:=c0.nb;show σ.nb+1+_<=9;omega),tn,aY ..,λj hj G=>?_,aY σ.Inb 0 _,V,ij _,?_,aO _ (bS ..),?_⟩
 .rcases ak.1 d with rfl|d
  .exact⟨(by decide:0≠5),(by decide:0≠6),hX⟩
  .rcases ak.1 d with rfl|d
   .exact⟨(by decide:0≠5),(by decide:0≠6),Z⟩
   .have:=c0.st p d;exact⟨this.1,this.2.1,c7 this.2.2 hB⟩
 .show cu σ.Inb 0 _ L.κ=_
  rw[bZ _ _ (by have:=(c0.pk j L hj q).zw;omega)]
 .have n:cu σ.Inb 0 (some (lJ R)) g=some e:=q
  rw[bZ _ _ S]at n;exact⟨n,λL F z=>by rw[J]at F;cases F⟩
 .have n:(cu σ.Inb 0 (some (lJ R)) g).isSome:=q
  have E:cu σ.St 0 (wO ((⟨X,0,none⟩,ptr R.k.A)::qy R.k.A R.k.bI R.k.bE)) g y:=S
  by_cases T:g=0
  .subst T;rw[aY]at E
   obtain⟨p,d,rfl⟩:=E;rcases ak.1 d with rfl|d
   .exact⟨_,bS ..,rfl⟩
   .exact⟨p,h p (c0.sA p d),rfl⟩
  .rw[bZ _ _ T]at n E
   obtain⟨p,d,rfl⟩:=c0.Ni g y n E;exact⟨p,h p d,rfl⟩
 .show cu σ.tk t lg j≠lg
  rw[bZ _ _ G];exact Q j hj
 .show cu σ.Inb 0 _ σ.ng=none
  rw[bZ _ _ (by omega)];exact c0.ZK
 .show σ.L+1=_
  rw[hL,f1]
theorem IV(H:vk R)(IH:∀m',m'<m+1->vi R Post m')(c0:Co R σ s w.heap.size)(Oq:∀j,j<R.n->σ.tk j≠lg)(OR:σ.Inb 0=none)(hL:σ.L=σ.pk R)(hS:Sat (jN R σ) w (pM s++cO R σ s))(hP:PV (jN R σ) s (bQ s))(hQ:QI s)(OA:wP R.k.A (R.cR::R.nG) g)(Eo:∀j q,j<R.n->σ.tk j=ir q->nI R Post (m+1) j q)(hq:s.q=i::I)(ht:(s.l.ag i).t=(t:Int))(tn:t<R.n)(qg:σ.tk t=none)(hc:(s.l.ag i).c=0)(wj:Fin R.k.V R.Lf m (some (t,0,none)) (s.l.pop i)):wT R Post σ 0 g w:=by
 have GG:=mT (cc:=R.cc) H.hA H.iA c0.n5;have Xm:=c0.dS tn qg;have F0:∀dl L nb,nb<=9->aC prog true (DX (jN R σ)) (fG prog Post (KD R.wI R.k.A R.cc σ.st) (QD R.k.A) (jl R.l) σ.St σ.Inb (gU R.k.A) L nb 0 σ.ng dl):=λdl L nb h9=>TO H.hA H.iA h9 c0.n5 c0.Ni 0
 have F:aC prog true (DX (jN R σ)) (wT R Post σ 0):=F0 0 σ.L σ.nb (by omega);have LQ:s.k.A=R.k.A:=by rw[c0.hk]
 have he:(ia s i).2=.func (.func 50) #[] #[ptr (R.ba t),ptr (R.bt t),ptr (R.bw t)]:=by
  unfold ia;simp only[hc,ht,tE,c0.hk,if_true];exact H.sc t tn
 refine Lt F (λa wr h=>c0.hB H a wr h) hS hP (c0.Ho H) hQ hq (by rw[LQ];exact OA) he func50 (by rfl) (by rfl) λfr w1 n E Mb k1 J hP1 hQ1=>?_
 rw[LQ]at Mb;have k1s:=k1.size;have Q:∀{r},Has R.S r->Has (pM (s.c8 i I n E)++cO R σ s) r:=λh=>(((h.app σ.dn).app _).app _).app _
 refine IU F R.k.A (R.k.T t) R.k.bI R.k.bE (R.ba t) (R.bt t) (R.bw t) _ fr (R.cR::R.nG) w1 Mb (Has.sat J (Q (H.Qq t tn))) (Has.sat J (Q (H.G4 t tn))) (Has.sat J (Q (H.Vt t tn))) (Has.rd J (Q (H.Qq t tn))) (Has.rd J (Q (H.G4 t tn))) (Has.rd J (Q (H.Vt t tn))) (λa wr h=>c0.hB H a wr (by omega))
  (λc sP S X bt bw bg bf ue k2 V cX cbt cbw cbg cbf=>?_)
 have U8:=k2.size;have bX:=V X (by simp);have bT:=V bt (by simp);have bG:=V bg (by simp);have bW:=V bw (by simp);have bF:=V bf (by simp)
 have WQ:∀l,nK σ.St (λg=>(σ.Inb g).isSome) l->¬jl R.l l:=λy ⟨gg,h1,h2⟩ ⟨A',_,z⟩=>by
  obtain⟨p,hp,rfl⟩:=c0.Ni gg y h1 h2;have:=c0.st p hp;rcases z with z|z<;>(simp at z;rw[z]at this;simp at this)
 refine PC R.k.A GG Xm Lr F0 WQ (λw h=>h.2.2.1) (λw h=>h.2.2.2.2) c sP S ?_;refine ue (λg=>fG prog Post (KD R.wI R.k.A R.cc σ.st) (QD R.k.A) (jl R.l) σ.St σ.Inb (gU R.k.A) (σ.L+1) (σ.nb+1) 0 σ.ng 0 g S) (sQ (F0 0 (σ.L+1) (σ.nb+1) (by omega)) S) (λa ⟨sD,a',GD,Gz⟩=>?_);refine fG.assume GG (λY Yj=>?_);have C1:=Ee (B':=S.heap.size) (X:=X) (bg:=bg) (en:=n) (eb:=E) H c0 hq ht tn qg Oq hL (by omega) bX.2 bG.2;have GG1:=mT (cc:=R.cc) H.hA H.iA C1.co.n5;have hK1:KD R.wI R.k.A R.cc (σ.begun R t X bg).st S:=⟨Y.1,vY cX (vY cbg Y.2.1),Y.2.2⟩;refine fG.less GG1 (λw h=>⟨h.1,Gn (λy T=>aO _ (aO _ T)) (λ_ h=>h) h.2.1,h.2.2⟩) hK1 ?_;have uT:∀c'∈R.cc,∃k',S.heap[c']? =some (.chan 0 #[] false k' k' false):=Y.2.1.2
 have Wc:∀y∈((⟨X,0,none⟩,ptr R.k.A)::qy R.k.A R.k.bI R.k.bE:oX),y∈(σ.begun R t X bg).st:=λy T=>by
  rcases ak.1 T with rfl|T
  .exact bS ..
  .exact aO _ (aO _ (c0.sA y T))
 obtain⟨nh,hgo⟩:=Gz (KD R.wI R.k.A R.cc (σ.begun R t X bg).st) (wO ((⟨X,0,none⟩,ptr R.k.A)::qy R.k.A R.k.bI R.k.bE)) S.heap.size S (λw h y T=>h.2.1.1 y (Wc y T)) (λy T=>⟨⟨y,T,rfl⟩,(C1.co.st y (Wc y T)).2.2⟩);refine fG.hire (es:=#[]) GG1 (by omega) sD (λd m _=>GD _) (by simp) (sh:=lJ R) (A5:=wO ((⟨X,0,none⟩,ptr R.k.A)::qy R.k.A R.k.bI R.k.bE)) (nh:=nh+1) (xO H.we _) (λl uR=>⟨vB uR,λz=>?_⟩) (.inl ⟨nh,S,rfl,hgo⟩) (λc' wo=>?_) (λg' O c' h1 h2 h3 h4=>?_) c0.ZK ?_
 .obtain⟨y,T,rfl⟩:=uR
  have:=C1.co.st y (Wc y T);obtain⟨A',_,z⟩:=z;rcases z with z|z<;>(simp at z;rw[z]at this;simp at this)
 .rcases mh wo with rfl|rfl
  .exact uT _ (by simp[RN.cc])
  .exact uT _ (by simp[RN.cc])
 .obtain⟨j,q1,hj,DG,LR,As⟩:=c0.inj h1 h2 h4
  have:=H.tw j hj;rcases mh h3 with e|e
  .exact this.1 (by rw[<-As,e])
  .exact this.2 (by rw[<-As,e])
 let N:List aJ:=[oR X 0 [ptr R.k.A] false,oR bg 0 [Md R.k.A] false,oR bt 0 [ptr (R.k.T t)] false,oR bw 0 [.func (.func 37) #[] #[ptr R.bl,ptr R.bo,ptr (R.bi t)]] false,oR bf 0 [.func (.func 62) #[] #[ptr bw,ptr bt,ptr X]] false]
 have XH:Flat N:=by
  rw[bN];intro r G;simp only[N,ak,bB,or_false]at G;rcases G with rfl|rfl|rfl|rfl|rfl<;>rfl
 have J4:Sat (jN R σ) S (pM (s.c8 i I n E)++(fI (R.k.T t) (.pointer none) false::((N++R.S)++cO R (σ.begun R t X bg) s))):=by
  have h1:Sat (jN R σ) w1 (pM (s.c8 i I n E)++(fI (R.k.T t) (.pointer none) false::cO R (σ.begun R t X bg) s)):=by
   have:=J.perm ((pZ (σ':=σ.begun R t X bg) tn rfl rfl s).append_left _);rw[qg]at this;exact this
  have OL:∀r∈pM (s.c8 i I n E)++(fI (R.k.T t) (.pointer none) false::cO R (σ.begun R t X bg) s),∀j,r.has j->(r.ad j).block<w1.heap.size:=λr G j hj=>h1.blk G hj
  have W:∀b,w1.heap.size<=b->jN R σ ⟨b,0,none⟩ false:=λb hb=>c0.hB H _ _ (by show w.heap.size<=b;omega)
  have h2:=h1.RP k2
  have h3:Sat (jN R σ) S (N++(pM (s.c8 i I n E)++(fI (R.k.T t) (.pointer none) false::cO R (σ.begun R t X bg) s))):=by
   have ne:∀(Z:aX),(∀r∈Z,r.wr=false)->∀b,w1.heap.size<=b->∀r∈Z++(pM (s.c8 i I n E)++(fI (R.k.T t) (.pointer none) false::cO R (σ.begun R t X bg) s)),r.wr=true->∀j,r.has j->(r.ad j).block≠b:=λZ hz b hb r G hw j hj e=>by
    rcases dZ.1 G with z|z
    .rw[hz r z]at hw;cases hw
    .have:=OL r z j hj;omega
   have a1:=h2.lf cbf (W _ bF.1) (ne [] (by simp) _ bF.1);have a2:=a1.lf cbw (W _ bW.1) (ne [oR bf 0 [.func (.func 62) #[] #[ptr bw,ptr bt,ptr X]] false] (by simp) _ bW.1);have a3:=a2.lf cbt (W _ bT.1) (ne [oR bw 0 [.func (.func 37) #[] #[ptr R.bl,ptr R.bo,ptr (R.bi t)]] false,oR bf 0 [.func (.func 62) #[] #[ptr bw,ptr bt,ptr X]] false] (by simp) _ bT.1);have a4:=a3.lf cbg (W _ bG.1) (ne [oR bt 0 [ptr (R.k.T t)] false,oR bw 0 [.func (.func 37) #[] #[ptr R.bl,ptr R.bo,ptr (R.bi t)]] false,oR bf 0 [.func (.func 62) #[] #[ptr bw,ptr bt,ptr X]] false] (by simp) _ bG.1);exact a4.lf cX (W _ bX.1) (ne [oR bg 0 [Md R.k.A] false,oR bt 0 [ptr (R.k.T t)] false,oR bw 0 [.func (.func 37) #[] #[ptr R.bl,ptr R.bo,ptr (R.bi t)]] false,oR bf 0 [.func (.func 62) #[] #[ptr bw,ptr bt,ptr X]] false] (by simp) _ bX.1)
  have h4:=h3.T4 (Z:=R.S) λr G=>⟨kX _ (kX _ (aO _ (kX _ (kX _ (kX _ G))))),H.ro r G⟩
  refine h4.perm ?_;have e1:=(EJ (l₁:=R.S) (l₂:=N)).append_right (pM (s.c8 i I n E)++(fI (R.k.T t) (.pointer none) false::cO R (σ.begun R t X bg) s));rw[fM]at e1;refine e1.trans ?_;have:=iP (N++R.S) (pM (s.c8 i I n E)++[fI (R.k.T t) (.pointer none) false]) (cO R (σ.begun R t X bg) s)
  simpa using this
 have mX:oR X 0 [ptr R.k.A] false∈pM (s.c8 i I n E)++(fI (R.k.T t) (.pointer none) false::((N++R.S)++cO R (σ.begun R t X bg) s)):=kX _ (aO _ (lE _ (lE _ (bS ..))));have mG:oR bg 0 [Md R.k.A] false∈pM (s.c8 i I n E)++(fI (R.k.T t) (.pointer none) false::((N++R.S)++cO R (σ.begun R t X bg) s)):=kX _ (aO _ (lE _ (lE _ (aO _ (bS ..)))));have mS:∀r∈gS (s.c8 i I n E),r∈pM (s.c8 i I n E)++(fI (R.k.T t) (.pointer none) false::((N++R.S)++cO R (σ.begun R t X bg) s)):=λr G=>kX _ (aO _ (kX _ (lE _ G)))
 have hS3:=J4.still (u:=Md R.k.A) mG;have hP3:=hP1.still (u:=Md R.k.A) J4 mG mS;have OQ:=hS3.still (u:=ptr R.k.A) mX;have hP4:=hP3.still (u:=ptr R.k.A) hS3 mX mS
 have hN:∀{r},r∈N->r.wr=false->Has (N++R.S) r:=λG hw=>by
  obtain⟨i,hi⟩:=lV G;exact Has.pre (C:=N) ⟨hw,i,hi⟩ _
 refine Ng (Λ:=m+1) (κ:=σ.ng) (bg:=bg) (R':=N++R.S) (bf:=bf) (bw:=bw) (bt:=bt) (X:=X) (v:=.pointer none) (s:=s.c8 i I n E) (m:=m) H IH ⟨σ.begun R t X bg,s.c8 i I n E,S.heap.size,m,C1,λj q1 hj DG=>?_,ij m⟩ ⟨OQ,hP4,hQ1,(XH.app H.fl).app (C1.co.flat H),(H.fJ (xj tn)).app N,az _,Gu.refl _ _,C1.co.hk,C1.co.q9 H⟩ wj (az _) (λr G=>G.app N) (hN (by simp[N]) rfl) (hN (by simp[N]) rfl) (hN (by simp[N]) rfl) (hN (by simp[N]) rfl);have h9:cu σ.tk t lg j=ir q1:=DG
 by_cases e:j=t
 .rw[e,aY]at h9;cases h9
 .rw[bZ _ _ e]at h9
  exact(Eo j q1 hj h9).1
end
section
variable{R:RN}{σ σ':Gd}{s:PS}
def KJ(R:RN)(st:oX)(wS w:aj):Prop:=KD R.wI R.k.A R.cc st w/\Kp [] wS w [⟨R.k.A,5,none⟩,⟨R.k.A,6,none⟩]/\w.heap.size=wS.heap.size
theorem RQ(H:vk R)(L:∀p∈st,p.1≠⟨R.k.A,5,none⟩)(J:∀p∈st,p.1≠⟨R.k.A,6,none⟩)(hl:R.k.A<wS.heap.size):JK (KJ R st wS) (jl R.l) wS.heap.size (gU R.k.A):=by
 have G:=H.iA;refine⟨λw d h=>⟨h.1,⟨h.2.1.size,h.2.1.cellC,h.2.1.jR,h.2.1.blk⟩,h.2.2⟩,λw v h=>?_,λw v h=>?_,⟨_,H.hA,.inl rfl⟩,⟨_,H.hA,.inr rfl⟩,hl,hl⟩
 .exact⟨((mT H.hA H.iA L).st w v).2 h.1,h.2.1.Bv rfl (.inr (.inl (by simp[gU]))),by simp[World.setCell,h.2.2]⟩
 .obtain⟨⟨F,E,⟨e,y⟩,q,T,n⟩,S,Q⟩:=h
  refine⟨⟨BS G F,(sC J).2 E,⟨e,(qu _ _ _ _ (by simp[gU])).trans y⟩,by rw[rB];exact q,v,EO _ _ _ n⟩,S.Bv rfl (.inr (.inl (by simp[gU]))),by simp[World.setCell,Q]⟩
structure Mz(R:RN)(s:PS)(dn:aX)(w:aj):Prop where
 old:Old R.wI w
 hk:s.k=R.k
 l:s.l=R.Lf
 AB:R.k.A<w.heap.size
 sat:Sat (cJ R.wI.heap.size R.l []) w (pM s++(dn++R.S))
 pv:PV (cJ R.wI.heap.size R.l []) s (bQ s)
 fl:Flat (dn++R.S)
 dW:∃Y,dn=Y++R.W
 ch:∀j,j<R.n->eY (dn++R.S) (s.oh j) (s.l.ou j).b.ch
def KX(R:RN)(Post:qG):Prop:=∀ng s dn w',0<ng->Mz R s dn w'->nQ prog Post (Old R.wI) (jl R.l) ng (G (R.cR.finish (.tuple #[])) R.nG) w'
theorem N5(H:vk R)(wj:KX R Post)(c0:Co R σ s w.heap.size)(Oq:∀j,j<R.n->σ.tk j≠lg)(OR:σ.Inb 0=none)(hL:σ.L=σ.pk R)(hS:Sat (jN R σ) w (pM s++cO R σ s))(E:PV (jN R σ) s (bQ s))(hQ:QI s)(OA:wP R.k.A (R.cR::R.nG) g)(hq:s.q=[])(hl:s.l=R.Lf):wT R Post σ 0 g w:=by
 have L:∀j,j<R.n->σ.tk j=Cv:=λj hj=>by
  rcases vr (σ.tk j)with e|⟨q,e⟩|e|e
  .obtain⟨i,hi,_⟩:=c0.all j hj (.inl e);rw[hq]at hi;cases hi
  .obtain⟨i,hi,_⟩:=c0.all j hj (.inr ⟨q,e⟩);rw[hq]at hi;cases hi
  .exact absurd e (Oq j hj)
  .exact e
 have Yr:σ.Inb=λ_=>none:=by
  funext x
  by_cases W:x=0
  .rw[W];exact OR
  .cases e:σ.Inb x with
   |none=>rfl
   |some y=>
    obtain⟨j,q,hj,Y,_⟩:=c0.zo x y e W;rw[L j hj]at Y;cases Y
 have nM:σ.L=0:=by
  have h1:=c0.cnt;rw[hq,gM]at h1;rw[hL];omega
 have Z:nq R σ.tk=[]:=by
  unfold nq;rw[List.flatMap_eq_nil_iff];intro j hj;rw[L j (bp.1 hj)];rfl
 have LQ:s.k.A=R.k.A:=by rw[c0.hk]
 have pQ:bQ s=[]:=by unfold bQ;rw[hq];rfl
 obtain⟨b,cap,Qo⟩:∃b cap,s.en=.slice b 0 cap:=by
  have:=E.en.2;rw[pQ]at this;rcases this with ⟨z,_⟩|⟨o,c,z,_⟩
  .exact⟨_,_,z⟩
  .exact⟨_,_,z⟩
 have h1:=hS.val 0 _ rfl (0,1) ⟨aG,(by decide:1<2)⟩;have o1:=hS.ok 0 _ rfl (0,1) ⟨aG,(by decide:1<2)⟩;have F:aC prog true (DX (jN R σ)) (wT R Post σ 0):=c0.Mg (Post:=Post) H 0;have Ip:w.cell? ⟨R.k.A,1,none⟩=some (.slice b 0 cap):=by rw[<-Qo,<-LQ];exact h1
 refine Pj F R.k.A R.cR R.nG b cap g w OA Ip ⟨pg (by decide) (by decide),λh=>by cases h⟩ (λfr JO=>?_);clear F;intro d gs T q sl ds sg kI GR hLd yy W4 hd C;rw[nM,bD]at hLd C ⊢;rw[Yr]at C;have pO:=c0.Dx;have GG:=mT (cc:=R.cc) H.hA H.iA c0.n5;have zp:KD R.wI R.k.A R.cc σ.st (w.at d):=(jz GG).1 C.keep;have h6w:jd .u32 ⟨R.k.A,6,none⟩ w 0:=W4;have Vi:R.k.A<w.heap.size:=c0.AB
 have kW:Kp [] w (Wv (gU R.k.A) (w.at d) ds.length) [⟨R.k.A,5,none⟩,⟨R.k.A,6,none⟩]:=
  Kp.Bv (w':=w.at d) (by exact⟨az _,λ_ _ _ _ h=>h,λ_ _ _ _ _=>rfl,λ_ _ _ _ _ _ h=>h⟩) rfl (.inr (.inl (by simp[gU])))
 have hKJ:KJ R σ.st w (Wv (gU R.k.A) (w.at d) ds.length):=⟨C.keep,kW,Iz _⟩;have C':=C.less (K':=KJ R σ.st w) (λw h=>h.1) hKJ;have J:=RQ (wS:=w) H c0.n5 c0.n6 Vi;obtain⟨nm,hWS⟩:=Dh (K:=KJ R σ.st w) (Shun:=jl R.l) (B:=w.heap.size) (Anchor:=λg=>g=G (R.cR.finish (.tuple #[])) R.nG) R.k.A (λw h=>h.1.2.2.1) (λw h=>h.1.2.2.2.2) fr (R.cR::R.nG) (λk=>JO (λg=>∃n,WS prog (KJ R σ.st w) (jl R.l) w.heap.size (gU R.k.A) (λg=>g=G (R.cR.finish (.tuple #[])) R.nG) k n 8 g) (Um (iT k 8)) ⟨0,WS.PB rfl rfl⟩) 9 (az _);have hse:jd .u32 (gU R.k.A).se (Wv (gU R.k.A) (w.at d) ds.length) 0:=fE (show jd .u32 (gU R.k.A).se (w.at d) 0 from h6w) (gU R.k.A).ne _;obtain⟨N,m',t',e1,OX,w',V,NA,a',rfl,e3,e4,e5,e6,e7,e8,e9⟩:=RZ J _ 9 _ gs _ sl T q _ false 0 nm ds sg (gv ds.length 0) 0 rfl rfl (by simpa using GR) C' hWS (λz=>by cases z) (by omega) (.inl ⟨.inl ⟨by omega,by omega⟩,yy,rfl,rfl⟩) (zH GG zp _) hse hd;obtain⟨k1,k2,k3⟩:=e6.keep;subst e5;have S':=u6 (e6.hears e7) k1.1
 have S:Sat (cJ R.wI.heap.size R.l []) w (pM s++(σ.dn++R.S)):=by
  have e:cO R σ s=gS s++(σ.dn++R.S):=by show gS s++za R σ=_;unfold za;rw[Z];rfl
  rw[e]at hS;exact(hS.sub (nR (EQ _ _) _)).P9 (λr _ j _ o=>⟨o.1,λz=>by cases z⟩) (λr _ _ j _ o=>⟨o.1,λ_=>⟨(o.2 rfl).1,fun⟨p,hp,_⟩=>by cases hp⟩⟩)
 have up:∀(a:Addr)(wr:Bool),jN R σ a wr->cJ R.wI.heap.size R.l [] a wr:=λa wr o=>⟨o.1,λz=>⟨(o.2 z).1,fun⟨p,hp,_⟩=>by cases hp⟩⟩
 have hP':PV (cJ R.wI.heap.size R.l []) s (bQ s):=⟨⟨E.jr.row,E.jr.le,E.jr.mx,λa ha ad wr hb=>up ad wr (E.jr.Rx a ha ad wr hb)⟩,E.en,λhc=>⟨(E.eo hc).1,λa wr hb=>up a wr ((E.eo hc).2 a wr hb)⟩,λk hk Q=>⟨(E.fb k hk Q).nil,(E.fb k hk Q).len,λhs ad wr hb=>up ad wr ((E.fb k hk Q).ok hs ad wr hb),(E.fb k hk Q).val⟩⟩;have Er:Flat (σ.dn++R.S):=c0.T9.app H.fl;have Of:=mj (b:=s.k.A) S hP' Er (i0:=0) (j0:=(0,0)) rfl (by decide) (by decide) ⟨aG,(by decide:0<2)⟩ rfl
 have hD:Mz R s σ.dn w':=
  {old:=k1.1
   hk:=c0.hk
   l:=hl
   AB:=c7 Vi k2.size
   sat:=S.kp k2 (λr hr j hj z=>by
    have o:=((S.mem hr).ok j hj).1.1;simp only[ak,bB,or_false]at z;rcases z with z|z
    .exact o ⟨_,H.hA,.inl (by rw[z])⟩
    .exact o ⟨_,H.hA,.inr (by rw[z])⟩) (λr hr g e n hg x W=>by
    have:=Of r hr g e n hg;rw[LQ]at this;simp only[ak,bB,or_false]at W;rcases W with rfl|rfl<;>exact this)
   pv:=hP'
   fl:=Er
   dW:=c0.dW
   ch:=λj hj=>c0.ed j hj (L j hj)}
 have hA:=wj σ.ng s σ.dn w' c0.Lz hD w'.drawn OX t' NA V (e3.trans kI) e4 (by rw[k3];exact S');exact Goal.back e1 hA
theorem GX(H:vk R)(L:KX R Post):∀m,vi R Post m:=by
 intro m
 induction m using Nat.strongRecOn with
 |_ m IH=>
  intro σ s w g c0 p E hL hS hP Q n J y;cases m with
  |zero=>exact n.elim
  |succ m=>
   obtain⟨_,n⟩:=n;cases F:s.q with
   |nil=>
    rw[F9 Q F,ah (by decide)]at n;exact N5 H L c0 p E hL hS hP Q y F n
   |cons i I=>
    rw[NV Q F,af (by omega)]at n;simp only[tE]at n;obtain⟨t,V,d,h⟩:=n;obtain⟨G,tn,T,W⟩:=c0.mK i (by rw[F];simp);have:G=t:=by rw[V]at T;omega
    subst this;rcases W with ⟨hc,qg⟩|⟨hc,q,Y,hw⟩
    .rcases h with ⟨_,n⟩|⟨z,_⟩
     .exact IV H (λm' Z=>IH m' Z) c0 p E hL hS hP Q y J F V tn qg hc n
     .rw[hc]at z;cases z
    .rcases h with ⟨z,_⟩|⟨_,wn,h1,h2,h3,h4,h5,h6⟩
     .rw[hc]at z;cases z
     .have S:wn=q.wn:=by rw[hw]at h1;omega
      subst S;refine Na H c0 p E hL hS hP Q y J F V tn Y hc hw ⟨?_,?_⟩
      .have e:((s.l.pop i).iD G q.wn).tk G={(s.l.pop i).tk G with w:=-1}:=by
        show upd _ _ _ _=_;unfold upd;rw[ah rfl]
       exact⟨d.tl,d.tn,d.el,d.wl,d.al,d.now,by rw[e];exact d.tc,by rw[e];exact d.tf,by rw[e];exact d.to,by rw[e];exact d.tx,d.us,d.gt,λk hk h4 h1=>by rw[e];exact d.q k hk h4 h1⟩
      .have e:((s.l.pop i).iD G q.wn).wt q.wn={s.l.wt q.wn with e:=true}:=by
        show upd _ _ _ _=_;unfold upd;rw[ah rfl];rfl
       rw[e];exact h6
end
def P7(R:RN):List (Addr×Value):=qy R.k.A R.k.bI R.k.bE++(List.range R.n).map λj=>(⟨R.k.T j,3,none⟩,.chan (some (R.k.aR j)))
def yH(R:RN)(ng:Nat):Gd:={st:=P7 R,ng:=ng,L:=0,nb:=0,Inb:=λ_=>none,St:=λ_ _=>False,tk:=λ_=>none,dn:=R.W}
theorem Bt(c:Nat):∀n,sumTo n (λ_=>c)=n*c
 |0=>by simp[sumTo]
 |n+1=>by simp only[sumTo,Bt c n];rw[rF,Nat.one_mul]
section
variable{R:RN}{s:PS}
theorem YR(H:vk R)(hk:s.k=R.k)(L:0<ng)(Y:R.wI.heap.size<=B)(Q:R.k.A<B)(W:∀j,j<R.n->R.k.T j<B)(E:∀i∈s.q,∃t:Nat,t<R.n/\(s.l.ag i).t=t/\(s.l.ag i).c=0)(J:∀i∈s.q,i<s.l.al)(G:∀t:Nat,t<R.n->∃i∈s.q,(s.l.ag i).t=t)(F:s.q.Pairwise λi j=>(s.l.ag i).t≠(s.l.ag j).t)(n:s.q.length=R.n):Co R (yH R ng) s B:=by
 have f0:(yH R ng).fr R=R.n:=by show sumTo R.n (λ_=>1)=_;rw[Bt,mN]
 have f1:(yH R ng).pk R=0:=by show sumTo R.n (λ_=>0)=_;rw[Bt,Nat.mul_zero]
 have h9:R.n<=9:=H.V.nc;refine⟨hk,L,Y,Q,λp h=>?_,λy S=>lE _ S,λj hj=>kX _ (gL.2 ⟨j,bp.2 hj,rfl⟩),λg x d _=>(by cases d),λg e d=>(by cases d),λj q _ d=>(by cases d),λi V=>?_,J,λt T _=>G t T,F,by rw[f0,f1,n,iO],by rw[f0];show 0+R.n<=9;omega,λj _ d=>(by cases d),H.flW,⟨[],rfl⟩⟩
 .rcases dZ.1 h with h|h
  .simp only[qy,ak,bB,or_false]at h
   rcases h with rfl|rfl
   .exact⟨(by decide:3≠5),(by decide:3≠6),Q⟩
   .exact⟨(by decide:4≠5),(by decide:4≠6),Q⟩
  .obtain⟨j,hj,rfl⟩:=gL.1 h
   exact⟨(by decide:3≠5),(by decide:3≠6),W j (bp.1 hj)⟩
 .obtain⟨t,d,h2,Z⟩:=E i V
  exact⟨t,d,h2,.inl ⟨Z,rfl⟩⟩
theorem HZ(H:vk R)(d:KX R Post)(E:KD R.wI R.k.A R.cc (P7 R) w)(e:QD R.k.A w)(J:jd .u64 ⟨R.k.A,5,none⟩ w 0)(c0:Co R (yH R ng) s w.heap.size)(n:Sat (jN R (yH R ng)) w (pM s++cO R (yH R ng) s))(y:PV (jN R (yH R ng)) s (bQ s))(p:QI s)(h:Fin R.k.V R.Lf m none s.l):
 nQ prog Post (Old R.wI) (jl R.l) ng (G (Frame.enter prog 39 #[ptr R.k.A] .normal) (R.cR::R.nG)) w:=by
 have f1:(yH R ng).pk R=0:=by show sumTo R.n (λ_=>0)=_;rw[Bt,Nat.mul_zero]
 have base:wT R Post (yH R ng) 0 (G (Frame.enter prog 39 #[ptr R.k.A] .normal) (R.cR::R.nG)) w:=by
  have F:aC prog true (DX (jN R (yH R ng))) (wT R Post (yH R ng) 0):=c0.Mg (Post:=Post) H 0;rw[enter_at _ func39 rfl];simp only[ntmps39,oP,Nat.reduceAdd,Nat.reduceSub];refine F.sq ?_;refine F.bl ?_;refine F.ctl (λ_=>stepG_loop) ?_;refine GX H d m (yH R ng) s w _ c0 (λj _ z=>by cases z) rfl f1.symm n y p h (λj q _ z=>by cases z) ?_;exact⟨_,_,_,_,_,_,_,_,_,_,_,_,_,_,_,_,_,_,_,_,_,_,_,_,_,_,_,_,_,_,_,_,_,_,rfl⟩
 exact fG.Jt (mT H.hA H.iA c0.n5) rfl E e J base
end
end Go.Proofs.YtobagnjnbmgidaaGreatDoor
