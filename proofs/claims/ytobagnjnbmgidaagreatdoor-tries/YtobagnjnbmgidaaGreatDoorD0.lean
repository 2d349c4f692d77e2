import Derived.Test.YtobagnjnbmgidaaGreatDoorM9
import Derived.Test.YtobagnjnbmgidaaGreatDoorN6
set_option linter.all false
set_option maxHeartbeats 8000000
set_option maxRecDepth 100000
namespace Go.Proofs.YtobagnjnbmgidaaGreatDoor
section
open Go.Conc Go.RowKit Go.Extern Tryz
section
variable{P:Program}{main:Bool}{D:World→World→Array Event→Prop}{Ψ:Goroutine→World→Prop}{b:Frame}{a:Act}{k:List Item}{cs:List Frame}{w:World}{ops:Array Oper}{i:Nat}{rest:List Nat}{o:Oper}{f:FuncId}{fn:Func}
theorem vk{r:Operand}{args:Array Operand}{ats:Array TypeId}{first cap:Array Value}(aQ:o.op=.call {callee:=.value r,args,argTypes:=ats})(hr:a.eval r=.func (.func f) first cap)(hf:P.funcs[f]? =some fn)(gA:(fn.name== "runtime.NumGoroutine")=false)(hb:fn.body.isNone=false)(w:World):
 (execOp a.eval o).run P w=.ok (.enter f (first++args.map a.eval++cap)) w∧(execOp a.eval o).events P w #[]=#[]:=by
 have h1:¬fn.name= "runtime.NumGoroutine" :=by simpa using gA
 have h2:¬fn.body=none:=by cases hx:fn.body<;>simp_all
 constructor
 ·unfold execOp
  simp[aQ,resolve,Deferred.ofValue,Go.invoke,hr,callFunc,hf,h1,h2]
 ·unfold execOp
  simp[aQ,resolve,Deferred.ofValue,Go.invoke,hr,callFunc,hf,h1,h2]
theorem aC.Bc(F:aC P main D Ψ)(ho:ops[i]? =some o)(hw:Region.wanted o (yielded ops a.tmps)=true)(hk:b.kind≠.early){r:Operand}{args:Array Operand}{ats:Array TypeId}{first cap:Array Value}(aQ:o.op=.call {callee:=.value r,args,argTypes:=ats})(hr:a.eval r=.func (.func f) first cap)(hf:P.funcs[f]? =some fn)(gA:(fn.name== "runtime.NumGoroutine")=false)(hb:fn.body.isNone=false)(h:Ψ (G (Frame.enter P f (first++args.map a.eval++cap) .normal) (b.at a (.inRegion ops (i::rest)::k)::cs)) w):Ψ (G (b.at a (.inRegion ops (i::rest)::k)) cs) w:=
 F.enter ho hw hk (fun _=>(vk aQ hr hf gA hb _).1) (fun _=>(vk aQ hr hf gA hb _).2) h
end
def bot(P:Program):Frame:={(default:Frame) with fn:=P.funcs.size,defers:=[],mode:=.panicking [goexitEntry]}
def Bm(f:Func):Code:=f.body.getD .skip
def call89(bg bf:Nat):Deferred:={target:=.fn (.func 89) #[.pointer (some ⟨bg,0,none⟩),.pointer (some ⟨bf,0,none⟩)],args:=#[]}
theorem O2(bg bf:Nat)(w:World):stepG prog false (born prog (call89 bg bf)) w=.go (G ((baseD 89).at ⟨#[.pointer (some ⟨bg,0,none⟩),.pointer (some ⟨bf,0,none⟩),undef,undef,undef],[]⟩ [.code (Bm f89)]) [(bot prog)]) w #[]:=by
 simp[born,call89,stepG,unwind,callDeferred,invoke,callFunc,func89,f89,seen,GStep.after,G,Frame.enter,Frame.at,baseD,bot,Bm]
theorem Jy(T:Array Value):∃n,QuitsD prog n 0 (G {(baseD 89).at ⟨T,[]⟩ [] with mode:=.returning} [(bot prog)]):=by
 refine⟨2,QuitsD.ctl (g':=G (bot prog) []) rfl (fun w=>?_) ?_⟩
 ·simp[G,stepG,unwind,doReturn,results,Frame.at,baseD,bot,func89,f89,seen,GStep.after,goexitEntry]
 refine QuitsD.ctl (g':={G (bot prog) [] with status:=.finished}) rfl (fun w=>?_) ⟨rfl,rfl⟩;simp[G,stepG,unwind,bot,goexitEntry,Frame.catches]
 rfl
theorem uM{P:Program}{fn:FuncId}{a:Act}{o:Oper}{w:World}{ad:Addr}(hq:(P.funcs[fn]?).any (·.norace)=true)(he:(execOp a.eval o).events P w #[]=#[⟨.cell ad,false,false⟩]):listed P fn a o w=#[]:=by
 unfold listed;rw[he,seen_def];simp[seenStep,hq]
section
variable{P:Program}{main:Bool}{K:World→Prop}{Ev:Event→Prop}{Ψ:Goroutine→Prop}{b:Frame}{a A:Act}{k:List Item}{cs:List Frame}{ops:Array Oper}{i:Nat}{rest:List Nat}{o:Oper}{Gp:rR}{g g' g₁ g₂:Goroutine}
theorem QF.opn(F:QF P main K Ev Ψ)(ho:ops[i]? =some o)(hw:Region.wanted o (yielded ops a.tmps)=true)(hk:b.kind≠.early)(hl:∀w,K w→listed P b.fn a o w=#[])(h:∀w,K w→uponK o a (fun a' w'=>w'=w∧a'=A) ((execOp a.eval o).run P w))(hn:Ψ (G (b.at A (.inRegion ops rest::k)) cs)):Ψ (G (b.at a (.inRegion ops (i::rest)::k)) cs):=by
 refine F.step _ _ rfl (fun w hK=>⟨#[],?_,fun e hm=>by simp at hm⟩) hn;have:=goes_oper_k (P:=P) (main:=main) (k:=k) (cs:=cs) (rest:=rest) (K:=fun g' w' es=>g'=G (b.at A (.inRegion ops rest::k)) cs∧w'=w∧es=listed P b.fn a o w) ho hw hk (fun K' zL=>uponK_mono (fun a' w' x=>by obtain⟨rfl,rfl⟩:=x;exact zL _ _ ⟨rfl,rfl,rfl⟩) (h w hK))
 revert this
 cases stepG P main (G (b.at a (.inRegion ops (i::rest)::k)) cs) w<;>intro this
 case go g' w' es=>rw[goes_go] at this;obtain⟨rfl,rfl,rfl⟩:=this;rw[hl _ hK]
 all_goals exact this.elim
end
structure T8(A bS bg:Nat)(a:Goroutine):Prop where
 run:a.status=.running
 send:∀W,stepG prog false a W=.comm a #[scase bS (.agg #[]) (.tuple #[])] true .send W #[]
 dp:∀K:World→Prop,(∀W,K W→∃v,W.cell? ⟨A,5,none⟩=some v)→(∀W,K W→W.cell? ⟨bg,0,none⟩=some (.pointer (some ⟨A,5,none⟩)))→∃n,DP prog K (iF A) n 0 (Go.Conc.served a undef)
section
theorem nj{P:Program}{w:World}{es:Array Event}{a:Addr}{m:Mode}(f:Fn)(x y:Array Value):(store a (.func f x y) m).events P w es=storedEv P w es a (.func f x y) m:=events_store P w es a _ m rfl
theorem yC(P:Program)(w:World)(a:Addr)(m:Mode)(f:Fn)(x y:Array Value):(store a (.func f x y) m).run P w=stored P w a (.func f x y) m:=run_store P w a _ m rfl
def xH(f:Func):Code:=match f.body with|some (.seq (.block _ (.loop b)) _)=>b|_=>.skip
def F7(f:Func):Code:=match f.body with|some (.seq _ r)=>r|_=>.skip
def xM(A:Nat)(cs:List Frame)(g:Goroutine):Prop:=∃y1 y2 y3 y4 y5 y6 y7 y8 y9 DK DJ DI DG DF DE DD DC Dz Dy Dx Dw Dv Du Dt Ds Dr Dq Dn Dm Dl Dk Di Dh Dg:Value,
 g=G ((base 39).at ⟨#[.pointer (some ⟨A,0,none⟩),y1,y2,y3,y4,y5,y6,y7,y8,y9,DK,DJ,DI,DG,DF,DE,DD,DC,Dz,Dy,Dx,Dw,Dv,Du,Dt,Ds,Dr,Dq,Dn,Dm,Dl,Dk,Di,Dh,Dg],[]⟩ [.code (xH Tryz.f39),.inLoop (xH Tryz.f39),.inBlock 0,.code (F7 Tryz.f39)]) cs
def xP(A:Nat)(cs:List Frame)(fr:Frame):Prop:=∀Φ,CF prog true Φ→(∀g,xM A cs g→Φ g)→Φ (G (fr.finish (.tuple #[])) cs)
def TX(cR:Frame)(oF:List Frame)(fr:Frame):Prop:=∀Φ,CF prog true Φ→Φ (G (cR.finish (.tuple #[])) oF)→Φ (G (fr.finish (.tuple #[])) (cR::oF))
variable{Ok:Addr→Bool→Prop}{Ψ:Goroutine→World→Prop}
theorem QR(F:aC prog true (DX Ok) Ψ)(N A:Nat)(cs:List Frame)(t:Int)(f:FuncId)(fn:Func)(fst cp:Array Value)(es:List (Int×Value))(en v0:Value)(g:Goroutine)(w0:World)(Eg:xM A cs g)(hf:prog.funcs[f]? =some fn)(gA:(fn.name== "runtime.NumGoroutine")=false)(hb:fn.body.isNone=false)(H:fU N w0 en ((t,.func (.func f) fst cp)::es))(lA:A<N)(hN:N≤w0.heap.size)(nR:w0.cell? ⟨A,0,none⟩=some v0)(Fi:w0.frozen? ⟨A,0,none⟩=false)(dw:w0.cell? ⟨A,1,none⟩=some en)(gZ:w0.frozen? ⟨A,1,none⟩=false)(o1:Ok ⟨A,1,none⟩ false)(o2:Ok ⟨A,1,none⟩ true)(o3:Ok ⟨A,0,none⟩ true)(kD:∀a:Addr,a.block∈bV en→Ok a false)(b8:∀(a:Addr)(wr:Bool),w0.heap.size≤a.block→Ok a wr)(hc:∀fr w1 kK,xP A cs fr→Kp [] w0 w1 [⟨A,0,none⟩,⟨A,1,none⟩]→w1.cell? ⟨A,0,none⟩=some (.int .i64 t)→w1.frozen? ⟨A,0,none⟩=false→w1.cell? ⟨A,1,none⟩=some kK→w1.frozen? ⟨A,1,none⟩=false→fU N w1 kK es→(∀g∈bV kK,g∈bV en)→Ψ (G (Frame.enter prog f (fst++cp) .normal) (fr::cs)) w1):Ψ g w0:=by
 obtain⟨y1,y2,y3,y4,y5,y6,y7,y8,y9,DK,DJ,DI,DG,DF,DE,DD,DC,Dz,Dy,Dx,Dw,Dv,Du,Dt,Ds,Dr,Dq,Dn,Dm,Dl,Dk,Di,Dh,Dg,rfl⟩:=Eg;rcases fU.some_or H with ⟨_,ji⟩|⟨E,off,aj,cur,uU,hle,Z9,lf,Ci,pF⟩
 ·cases ji
 obtain⟨cap,rfl⟩:∃c,aj=c+1:=⟨aj-1,by simp at hle;omega⟩;have rM:=H.1;have qz:w0.cell? ⟨E,off,none⟩=some (.int .i64 t):=by have:=pF 0 _ (by simp[flat];rfl);simp only[World.cell?,lf];simpa using this
 have hE1:w0.cell? ⟨E,off+1,none⟩=some (.func (.func f) fst cp):=by have:=pF 1 _ (by simp[flat];rfl);simp only[World.cell?,lf];simpa using this
 obtain⟨q,hq⟩:∃q,q=es.length:=⟨_,rfl⟩;have hlen:((t,Value.func (.func f) fst cp)::es).length=q+1:=by simp[hq]
 rw[hlen] at uU hle;replace hq:q≤es.length∧es.length≤q:=⟨Nat.le_of_eq hq,Nat.le_of_eq hq.symm⟩;have e1:∀w,(Instr.sliceAt 100 (.slice (some ⟨E,off,none⟩) (q+1) (cap+1)) (some (.int .i64 1)) none none).events prog w #[]=#[]:=fun w=>(mO w (L:=1) rfl (by omega) hle).2
 have hEr:∀g,g∈bV en↔g=E:=fun g=>by rw[br,uU];simp[Value.ownBlock];exact⟨fun h=>h.symm,fun h=>h.symm⟩
 have jC:∀a:Addr,a.block=E→Ok a false:=fun a h=>kD a ((hEr _).2 h)
 rw[uU] at dw;have SR:E<w0.heap.size:=(Array.getElem?_eq_some_iff.1 lf).1;have hEA:E≠A:=by omega
 have q1:((0:Int)<(q:Int)+1):=by omega
 have q2:(1:Int)≤(q:Int)+1:=by omega
 have q3:q≤cap:=by omega
 clear hlen H uU;have Wl:=yC;unfold xH;refine F.sq ?_;refine F.bh ?_;iterate 3 (refine F.ak ?_;try walk_nrm)
 refine F.ol rfl rfl rfl fun d K h=>?_;go_simp;refine h _ (fun e m=>?_) ?_;simp[go_sem, *] at m;subst m;exact ff (w:=w0) (by assumption) (by first|assumption|exact jC _ rfl|(apply b8<;>dsimp only<;>omega));clear h K d;try walk_nrm
 iterate 2 (refine F.ak ?_;try walk_nrm)
 refine F.re ?_;refine F.ct rfl ?_;refine F.sk ?_;refine F.bl ?_;refine F.bh ?_;iterate 3 (refine F.ak ?_;try walk_nrm)
 refine F.ol rfl rfl rfl fun d K h=>?_;go_simp;refine h _ (fun e m=>?_) ?_;simp[go_sem, *] at m;subst m;exact ff (w:=w0) (by assumption) (by first|assumption|exact jC _ rfl|(apply b8<;>dsimp only<;>omega));clear h K d;try walk_nrm
 refine F.ak ?_;try walk_nrm
 refine F.ol rfl rfl rfl fun d K hK=>?_
 go_simp;refine hK _ (fun e hm=>?_) ?_
 ·simp[go_sem, *] at hm
  rcases hm with rfl|rfl<;>exact ff (w:=w0) (by assumption) (by first|assumption|exact jC _ rfl|(apply b8<;>dsimp only<;>omega))
 clear hK K d;try walk_nrm
 clear qz hE1;refine F.op rfl rfl (by decide) (fun d K hK=>?_);go_simp;rw[alloc_at'];refine hK _ _ ⟨DX.alloc _ _ (fun e he=>?_),?_⟩
 ·have hm:=mem_listed he
  simp[go_sem] at hm
 clear hK K d;try walk_nrm
 generalize bJ:World.alloc w0 _=w1;generalize cP:(World.heap w0).size=n1;have v8:=g9 bJ cP;replace Fi:=ez Fi nR bJ;replace gZ:=ez gZ dw bJ;replace nR:=bH nR bJ;replace dw:=bH dw bJ;have jo:=aI (i:=0) bJ cP rfl;have oU:=aV bJ cP 0;have gX:=aI (i:=1) bJ cP rfl;have oT:=aV bJ cP 1;try simp only[List.getElem_toArray,List.getElem_cons_zero,List.getElem_cons_succ] at jo gX
 have kp:Kp [] w0 w0 [⟨A,0,none⟩,⟨A,1,none⟩]:=Kp.refl _;replace kp:=kp.uA bJ;refine F.op rfl rfl (by decide) (fun d K hK=>?_);go_simp
 repeat rw[setCell_at']
 refine hK _ _ ⟨DX.Qz _ (by(first|assumption|exact jC _ rfl|(apply b8<;>dsimp only<;>omega))) (by(first|assumption|exact jC _ rfl|(apply b8<;>dsimp only<;>omega))) (fun e he=>?_),?_⟩
 ·have hm:=mem_listed he
  simp[go_sem,storedEv,dh,eM,dm,fB,eB,nj, *] at hm;rcases hm with rfl|rfl<;>exact .inl ⟨_,rfl,rfl,by(first|assumption|exact jC _ rfl|(apply b8<;>dsimp only<;>omega)),by simp only[fV,size_set];first|omega|exact aq (by assumption)⟩
 clear hK K d;try walk_nrm
 generalize c7:World.setCell w1 _ _=w2;have Io:=lW c7;replace Fi:=aK Fi c7;replace gZ:=aK gZ c7;replace oU:=aK oU c7;replace oT:=aK oT c7;replace nR:=aS nR c7 (by simp<;>omega);replace dw:=aS dw c7 (by simp<;>omega);replace jo:=dP jo c7;replace gX:=aS gX c7 (by simp<;>omega);replace kp:=kp.rD c7 (by first|(left;simp;done)|(right;left;simp;done)|(right;right;dsimp only;omega));generalize cm:World.setCell w2 _ _=w3;have Lg:=lW cm;replace Fi:=aK Fi cm;replace gZ:=aK gZ cm;replace oU:=aK oU cm;replace oT:=aK oT cm;replace nR:=aS nR cm (by simp<;>omega);replace dw:=aS dw cm (by simp<;>omega);replace jo:=aS jo cm (by simp<;>omega);replace gX:=dP gX cm;replace kp:=kp.rD cm (by first|(left;simp;done)|(right;left;simp;done)|(right;right;dsimp only;omega));refine F.cI ?_;iterate 4 (refine F.ak ?_;try walk_nrm)
 refine F.ol rfl rfl rfl fun d K h=>?_;go_simp;refine h _ (fun e m=>?_) ?_;simp[go_sem, *] at m;subst m;exact ff (w:=w3) (by assumption) (by first|assumption|exact jC _ rfl|(apply b8<;>dsimp only<;>omega));clear h K d;try walk_nrm
 refine F.xT rfl rfl (by decide) (fun _=>(by first|(simp[go_sem,Ba,A9];done)|(simp[go_sem,Instr.makeInterface,Instr.makeFunc];done)|(simp[go_sem, *];done))) (fun d K hK=>?_);go_simp;refine hK _ ?_;clear hK K d;try walk_nrm
 iterate 2 (refine F.ak ?_;try walk_nrm)
 refine F.op rfl rfl (by decide) (fun d K hK=>?_);go_simp;rw[setCell_at'];refine hK _ _ ⟨DX.set _ (by(first|assumption|exact jC _ rfl|(apply b8<;>dsimp only<;>omega))) (fun e he=>?_),?_⟩
 ·have hm:=mem_listed he
  simp[go_sem,storedEv,dh,eM,dm,fB,eB,nj, *] at hm;subst hm;exact .inl ⟨_,rfl,rfl,by(first|assumption|exact jC _ rfl|(apply b8<;>dsimp only<;>omega)),by simp only[fV,size_set];first|omega|exact aq (by assumption)⟩
 clear hK K d;try walk_nrm
 generalize fD:World.setCell w3 _ _=w4;have Qu:=lW fD;replace Fi:=aK Fi fD;replace gZ:=aK gZ fD;replace oU:=aK oU fD;replace oT:=aK oT fD;replace nR:=aS nR fD (by simp<;>omega);replace dw:=dP dw fD;replace jo:=aS jo fD (by simp<;>omega);replace gX:=aS gX fD (by simp<;>omega);replace kp:=kp.rD fD (by first|(left;simp;done)|(right;left;simp;done)|(right;right;dsimp only;omega));refine F.cI ?_;iterate 2 (refine F.ak ?_;try walk_nrm)
 refine F.ol rfl rfl rfl fun d K h=>?_;go_simp;refine h _ (fun e m=>?_) ?_;simp[go_sem, *] at m;subst m;exact ff (w:=w4) (by assumption) (by first|assumption|exact jC _ rfl|(apply b8<;>dsimp only<;>omega));clear h K d;try walk_nrm
 iterate 2 (refine F.ak ?_;try walk_nrm)
 refine F.op rfl rfl (by decide) (fun d K hK=>?_);go_simp;rw[setCell_at'];refine hK _ _ ⟨DX.set _ (by(first|assumption|exact jC _ rfl|(apply b8<;>dsimp only<;>omega))) (fun e he=>?_),?_⟩
 ·have hm:=mem_listed he
  simp[go_sem,storedEv,dh,eM,dm,fB,eB,nj, *] at hm;subst hm;exact .inl ⟨_,rfl,rfl,by(first|assumption|exact jC _ rfl|(apply b8<;>dsimp only<;>omega)),by simp only[fV,size_set];first|omega|exact aq (by assumption)⟩
 clear hK K d;try walk_nrm
 generalize iR:World.setCell w4 _ _=w5;have Vt:=lW iR;replace Fi:=aK Fi iR;replace gZ:=aK gZ iR;replace oU:=aK oU iR;replace oT:=aK oT iR;replace nR:=dP nR iR;replace dw:=aS dw iR (by simp<;>omega);replace jo:=aS jo iR (by simp<;>omega);replace gX:=aS gX iR (by simp<;>omega);replace kp:=kp.rD iR (by first|(left;simp;done)|(right;left;simp;done)|(right;right;dsimp only;omega));refine F.Ey ?_;refine F.ak ?_;try walk_nrm
 refine F.ol rfl rfl rfl fun d K h=>?_;go_simp;refine h _ (fun e m=>?_) ?_;simp[go_sem, *] at m;subst m;exact ff (w:=w5) (by assumption) (by first|assumption|exact jC _ rfl|(apply b8<;>dsimp only<;>omega));clear h K d;try walk_nrm
 refine F.Bc rfl rfl (by decide) rfl rfl hf gA hb ?_;try walk_nrm
 simp only[List.map_toArray,List.map_nil,Array.append_empty];have Xb:∀g,g∈bV (Value.slice (if cap=0 then some ⟨E,off,none⟩ else some ⟨E,off+2,none⟩) q cap)→g=E:=fun g hg=>by by_cases kH:cap=0<;>simpa [bV,Value.ownBlock,kH] using hg
 refine hc _ w5 _ ?_ kp nR Fi dw gZ ?_ (fun g hg=>(hEr g).2 (Xb g hg))
 ·clear F
  intro Φ F ht;rw[Frame.finish_at];try walk_nrm
  refine F.re ?_;refine F.ib ?_;refine F.ctl (fun _=>stepG_inLoop) ?_;exact ht _ ⟨_,_,_,_,_,_,_,_,_,_,_,_,_,_,_,_,_,_,_,_,_,_,_,_,_,_,_,_,_,_,_,_,_,_,rfl⟩
 ·have L7:=kp.blk E _ _ _ (by simp) (by simp;exact fun z=>hEA z.symm) lf
  refine⟨fun e he=>rM e (List.mem_cons_of_mem _ he),.inr ?_⟩;have Wq:q=es.length:=Nat.le_antisymm hq.1 hq.2
  have VU:∀(j:Nat)(u:Value),(flat es)[j]? =some u→cur[off+2+j]? =some u:=fun j u hu=>by
   have:=pF (j+2) u (by simpa [flat] using hu);rw[show off+2+j=off+(j+2) by omega];exact this
  by_cases kH:cap=0
  ·subst kH
   have Cm:q=0:=by omega
   have fu:es=[]:=List.eq_nil_of_length_eq_zero (by omega);subst fu;exact⟨E,off,0,cur,by simp[Cm],by simp,Z9,L7,by omega,fun j u hu=>by simp[flat] at hu⟩
  ·exact⟨E,off+2,cap,cur,by simp[kH,Wq],by omega,Z9,L7,by omega,VU⟩
theorem OV(F:aC prog true (DX Ok) Ψ)(A:Nat)(cR:Frame)(oF:List Frame)(b:Option Addr)(cap:Nat)(g:Goroutine)(w0:World)(Eg:xM A (cR::oF) g)(dw:w0.cell? ⟨A,1,none⟩=some (.slice b 0 cap))(o1:Ok ⟨A,1,none⟩ false)(hc:∀fr,TX cR oF fr→Ψ (G (Frame.enter prog 56 #[.pointer (some ⟨A,5,none⟩)] .normal) (fr::cR::oF)) w0):Ψ g w0:=by
 obtain⟨y1,y2,y3,y4,y5,y6,y7,y8,y9,DK,DJ,DI,DG,DF,DE,DD,DC,Dz,Dy,Dx,Dw,Dv,Du,Dt,Ds,Dr,Dq,Dn,Dm,Dl,Dk,Di,Dh,Dg,rfl⟩:=Eg;unfold xH F7;refine F.sq ?_;refine F.bh ?_;iterate 3 (refine F.ak ?_;try walk_nrm)
 refine F.ol rfl rfl rfl fun d K h=>?_;go_simp;refine h _ (fun e m=>?_) ?_;simp[go_sem, *] at m;subst m;exact ff (w:=w0) (by assumption) (by first|assumption|exact jC _ rfl|(apply b8<;>dsimp only<;>omega));clear h K d;try walk_nrm
 iterate 2 (refine F.ak ?_;try walk_nrm)
 refine F.re ?_;refine F.cf rfl ?_;refine F.ctl (fun _=>stepG_exit rfl) ?_;refine F.nJ ?_;iterate 3 (refine F.ak ?_;try walk_nrm)
 refine F.enter rfl rfl (by decide) (fun _=>run_call_body rfl func56 (by rfl) (by rfl)) (fun _=>events_call_body rfl func56 (by rfl) (by rfl) _) ?_;walk_nrm;refine hc _ ?_;clear F;intro Φ F ht;rw[Frame.finish_at];try walk_nrm
 refine F.re ?_;refine F.ctl (fun _=>stepG_end) ?_;refine F.aF rfl rfl func39 (resultsC_none (by rfl) _) ?_;exact ht
end
end
section
open Go.Conc Go.RowKit Tryz
def C9(A bU bS:Nat)(cs:List Frame)(g:Goroutine):Prop:=∀kk:Nat,kk<2→∀Φ,CF prog true Φ→(∀g',xM A cs g'→Φ g')→Φ (Go.Conc.served g (commResult (jO bU bS) .select kk (.agg #[]) true))
def TO(A bU bS:Nat)(cs:List Frame)(pl:List (Addr×Value))(a:Goroutine):Prop:=∀(K:World→Prop)(Still:Loc→Prop)(B:Nat)(w:World),(∀w,K w→∀p∈pl,w.cell? p.1=some p.2)→(∀p∈pl,Still (.cell p.1)∧p.1.block<B)→
 ∃n,Goes prog true (RK K) (DS Still B) (fun g _=>∃g₂,AtIn prog true K Still B (lZ bU bS (C9 A bU bS cs)) g g₂) n a w
def rF(A bU bS:Nat):List (Addr×Value):=[(⟨A,3,none⟩,.chan (some bU)),(⟨A,4,none⟩,.chan (some bS))]
def Pf(A bU bS X bg bf:Nat)(cs:List Frame)(a:Goroutine):Prop:=
 a.status=.running∧∃a',(∀w,stepG prog true a w=.spawn a' (born prog (call89 bg bf)) w #[])∧TO A bU bS cs ((⟨X,0,none⟩,.pointer (some ⟨A,0,none⟩))::rF A bU bS) a'
def T6(A bU bS aX:Nat)(cs:List Frame)(a:Goroutine):Prop:=
 a.status=.running∧(∀w,stepG prog true a w=.comm a #[scase aX (.int .i64 1) (.tuple #[])] true .send w #[])∧TO A bU bS cs (rF A bU bS) (Go.Conc.served a undef)
variable{Ok:Addr→Bool→Prop}{Ψ:Goroutine→World→Prop}
theorem Jg(F:aC prog true (DX Ok) Ψ)(A T bU bS ba TJ TI:Nat)(fa:Array Value)(fr:Frame)(cs:List Frame)(w0:World)(G9:xP A cs fr)(gi:w0.cell? ⟨ba,0,none⟩=some (.pointer (some ⟨A,0,none⟩)))(uZ:w0.cell? ⟨TJ,0,none⟩=some (.pointer (some ⟨T,0,none⟩)))(uY:w0.cell? ⟨TI,0,none⟩=some (.func (.func 37) #[] fa))(o1:Ok ⟨ba,0,none⟩ false)(o2:Ok ⟨TJ,0,none⟩ false)(o3:Ok ⟨TI,0,none⟩ false)(b8:∀(a:Addr)(wr:Bool),w0.heap.size≤a.block→Ok a wr)(hc:∀c dY w1 X bt bw bg bf,(∀Φ,CF prog true Φ→(∀a,Pf A bU bS X bg bf cs a→Φ a)→Φ (G (c.finish (.tuple #[])) dY))→Kp [] w0 w1→(∀b∈[X,bt,bw,bg,bf],w0.heap.size≤b∧b<w1.heap.size)→
 w1.cell? ⟨X,0,none⟩=some (.pointer (some ⟨A,0,none⟩))→w1.cell? ⟨bt,0,none⟩=some (.pointer (some ⟨T,0,none⟩))→w1.cell? ⟨bw,0,none⟩=some (.func (.func 37) #[] fa)→w1.cell? ⟨bg,0,none⟩=some (.pointer (some ⟨A,5,none⟩))→
 w1.cell? ⟨bf,0,none⟩=some (.func (.func 62) #[] #[.pointer (some ⟨bw,0,none⟩),.pointer (some ⟨bt,0,none⟩),.pointer (some ⟨X,0,none⟩)])→Ψ (G (Frame.enter prog 88 #[.pointer (some ⟨A,5,none⟩),.int .i64 1] .normal) (c::dY)) w1):
 Ψ (G (Frame.enter prog 50 (#[]++#[.pointer (some ⟨ba,0,none⟩),.pointer (some ⟨TJ,0,none⟩),.pointer (some ⟨TI,0,none⟩)]) .normal) (fr::cs)) w0:=by
 have Wl:=yC;have e0:(#[]:Array Value)++#[.pointer (some ⟨ba,0,none⟩),.pointer (some ⟨TJ,0,none⟩),.pointer (some ⟨TI,0,none⟩)]=#[.pointer (some ⟨ba,0,none⟩),.pointer (some ⟨TJ,0,none⟩),.pointer (some ⟨TI,0,none⟩)]:=rfl;rw[e0];clear e0;rw[enter_at _ func50 rfl];simp only[ntmps50,mV,Nat.reduceAdd,Nat.reduceSub];refine F.nJ ?_;refine F.ol rfl rfl rfl fun d K h=>?_;go_simp;refine h _ (fun e m=>?_) ?_;simp[go_sem, *] at m;subst m;exact ff (w:=w0) (by assumption) (by first|assumption|(apply b8<;>dsimp only<;>omega));clear h K d;try walk_nrm
 refine F.ol rfl rfl rfl fun d K h=>?_;go_simp;refine h _ (fun e m=>?_) ?_;simp[go_sem, *] at m;subst m;exact ff (w:=w0) (by assumption) (by first|assumption|(apply b8<;>dsimp only<;>omega));clear h K d;try walk_nrm
 refine F.ol rfl rfl rfl fun d K h=>?_;go_simp;refine h _ (fun e m=>?_) ?_;simp[go_sem, *] at m;subst m;exact ff (w:=w0) (by assumption) (by first|assumption|(apply b8<;>dsimp only<;>omega));clear h K d;try walk_nrm
 refine F.enter rfl rfl (by decide) (fun _=>run_call_body rfl func51 (by rfl) (by rfl)) (fun _=>events_call_body rfl func51 (by rfl) (by rfl) _) ?_;walk_nrm;rw[enter_at _ func51 rfl];simp only[ntmps51,mV,Nat.reduceAdd,Nat.reduceSub];refine F.bh ?_;refine F.op rfl rfl (by decide) (fun d K hK=>?_);go_simp;rw[alloc_at'];refine hK _ _ ⟨DX.alloc _ _ (fun e he=>?_),?_⟩
 ·have hm:=mem_listed he
  simp[go_sem] at hm
 clear hK K d;try walk_nrm
 generalize bJ:World.alloc w0 _=w1;generalize cP:(World.heap w0).size=n1;have v8:=g9 bJ cP;replace gi:=bH gi bJ;replace uZ:=bH uZ bJ;replace uY:=bH uY bJ;have gT:=aI (i:=0) bJ cP rfl;have K4:=aV bJ cP 0;try simp only[List.getElem_toArray,List.getElem_cons_zero,List.getElem_cons_succ] at gT
 have kp:Kp [] w0 w0 []:=Kp.refl _;replace kp:=kp.uA bJ;refine F.op rfl rfl (by decide) (fun d K hK=>?_);go_simp;rw[alloc_at'];refine hK _ _ ⟨DX.alloc _ _ (fun e he=>?_),?_⟩
 ·have hm:=mem_listed he
  simp[go_sem] at hm
 clear hK K d;try walk_nrm
 generalize c7:World.alloc w1 _=w2;generalize mq:(World.heap w1).size=n2;have Io:=g9 c7 mq;replace K4:=ez K4 gT c7;replace gi:=bH gi c7;replace uZ:=bH uZ c7;replace uY:=bH uY c7;replace gT:=bH gT c7;have wQ:=aI (i:=0) c7 mq rfl;have Db:=aV c7 mq 0;try simp only[List.getElem_toArray,List.getElem_cons_zero,List.getElem_cons_succ] at wQ
 replace kp:=kp.uA c7;refine F.op rfl rfl (by decide) (fun d K hK=>?_);go_simp;rw[alloc_at'];refine hK _ _ ⟨DX.alloc _ _ (fun e he=>?_),?_⟩
 ·have hm:=mem_listed he
  simp[go_sem] at hm
 clear hK K d;try walk_nrm
 generalize cm:World.alloc w2 _=w3;generalize qu:(World.heap w2).size=n3;have Lg:=g9 cm qu;replace K4:=ez K4 gT cm;replace Db:=ez Db wQ cm;replace gi:=bH gi cm;replace uZ:=bH uZ cm;replace uY:=bH uY cm;replace gT:=bH gT cm;replace wQ:=bH wQ cm;have xY:=aI (i:=0) cm qu rfl;have Uf:=aV cm qu 0;try simp only[List.getElem_toArray,List.getElem_cons_zero,List.getElem_cons_succ] at xY
 replace kp:=kp.uA cm;refine F.cI ?_;refine F.ol rfl rfl rfl fun d K h=>?_;go_simp;refine h _ (fun e m=>?_) ?_;simp[go_sem, *] at m;subst m;exact ff (w:=w3) (by assumption) (by first|assumption|(apply b8<;>dsimp only<;>omega));clear h K d;try walk_nrm
 iterate 3 (refine F.ak ?_;try walk_nrm)
 refine F.enter rfl rfl (by decide) (fun _=>run_call_body rfl func61 (by rfl) (by rfl)) (fun _=>events_call_body rfl func61 (by rfl) (by rfl) _) ?_;walk_nrm;rw[enter_at _ func61 rfl];simp only[ntmps61,mV,Nat.reduceAdd,Nat.reduceSub];refine F.bh ?_;refine F.op rfl rfl (by decide) (fun d K hK=>?_);go_simp;rw[alloc_at'];refine hK _ _ ⟨DX.alloc _ _ (fun e he=>?_),?_⟩
 ·have hm:=mem_listed he
  simp[go_sem] at hm
 clear hK K d;try walk_nrm
 generalize fD:World.alloc w3 _=w4;generalize WK:(World.heap w3).size=n4;have Qu:=g9 fD WK;replace K4:=ez K4 gT fD;replace Db:=ez Db wQ fD;replace Uf:=ez Uf xY fD;replace gi:=bH gi fD;replace uZ:=bH uZ fD;replace uY:=bH uY fD;replace gT:=bH gT fD;replace wQ:=bH wQ fD;replace xY:=bH xY fD;have Eh:=aI (i:=0) fD WK rfl;have Yu:=aV fD WK 0;try simp only[List.getElem_toArray,List.getElem_cons_zero,List.getElem_cons_succ] at Eh
 replace kp:=kp.uA fD;refine F.op rfl rfl (by decide) (fun d K hK=>?_);go_simp;rw[alloc_at'];refine hK _ _ ⟨DX.alloc _ _ (fun e he=>?_),?_⟩
 ·have hm:=mem_listed he
  simp[go_sem] at hm
 clear hK K d;try walk_nrm
 generalize iR:World.alloc w4 _=w5;generalize WJ:(World.heap w4).size=n5;have Vt:=g9 iR WJ;replace K4:=ez K4 gT iR;replace Db:=ez Db wQ iR;replace Uf:=ez Uf xY iR;replace Yu:=ez Yu Eh iR;replace gi:=bH gi iR;replace uZ:=bH uZ iR;replace uY:=bH uY iR;replace gT:=bH gT iR;replace wQ:=bH wQ iR;replace xY:=bH xY iR;replace Eh:=bH Eh iR;have oO:=aI (i:=0) iR WJ rfl;have zfn:=aV iR WJ 0;try simp only[List.getElem_toArray,List.getElem_cons_zero,List.getElem_cons_succ] at oO
 replace kp:=kp.uA iR;refine F.cI ?_;refine F.ol rfl rfl rfl fun d K h=>?_;go_simp;refine h _ (fun e m=>?_) ?_;simp[go_sem, *] at m;subst m;exact ff (w:=w5) (by assumption) (by first|assumption|(apply b8<;>dsimp only<;>omega));clear h K d;try walk_nrm
 refine F.enter rfl rfl (by decide) (fun _=>run_call_body rfl func88 (by rfl) (by rfl)) (fun _=>events_call_body rfl func88 (by rfl) (by rfl) _) ?_;walk_nrm;refine hc _ _ w5 n1 n2 n3 n4 n5 ?_ kp (by intro b hb;simp at hb;rcases hb with rfl|rfl|rfl|rfl|rfl<;>omega) gT wQ xY Eh oO;clear F;intro Φ F ht;rw[Frame.finish_at];try walk_nrm
 refine F.Ey ?_;refine F.ak ?_;try walk_nrm
 refine ht _ ⟨rfl,?_⟩
 apply Exists.intro
 constructor
 ·intro w
  rw[stepG_spawn (d:=call89 n4 n5) (f:=.func 89) (c:=#[.pointer (some ⟨n4,0,none⟩),.pointer (some ⟨n5,0,none⟩)]) (w':=w) rfl rfl (by decide) (by simp[execOp,call89,resolve,Deferred.ofValue,Act.eval]) rfl];rw[listed_nil (by simp[execOp,resolve,Deferred.ofValue,Act.eval])]
 ·intro K Still B w hK hS
  clear F;have F:=rX (P:=prog) (K:=K) (Still:=Still) (B:=B) true (lZ bU bS (C9 A bU bS cs)) w;have fX:∀w,K w→w.cell? ⟨n1,0,none⟩=some (.pointer (some ⟨A,0,none⟩)):=fun w h=>hK w h (⟨n1,0,none⟩,_) (by simp)
  have f3:∀w,K w→w.cell? ⟨A,3,none⟩=some (.chan (some bU)):=fun w h=>hK w h (⟨A,3,none⟩,_) (by simp[rF])
  have f4:∀w,K w→w.cell? ⟨A,4,none⟩=some (.chan (some bS)):=fun w h=>hK w h (⟨A,4,none⟩,_) (by simp[rF])
  have sX:=hS (⟨n1,0,none⟩,.pointer (some ⟨A,0,none⟩)) (by simp);have s3:=hS (⟨A,3,none⟩,.chan (some bU)) (by simp[rF]);have s4:=hS (⟨A,4,none⟩,.chan (some bS)) (by simp[rF]);try walk_nrm
  refine F.re ?_;refine F.ctl (fun _=>stepG_end) ?_;refine F.aF rfl rfl func61 (resultsC_none (by rfl) _) ?_;rw[Frame.finish_at];try walk_nrm
  refine F.Ey ?_
  apply F.op rfl rfl (by decide)
  ·intro w hw e he
   have jm:=fX w hw;simp[go_sem,jm] at he;subst he;exact⟨_,rfl,sX.1,sX.2⟩
  ·intro w hw
   have jm:=fX w hw;go_simp
   first|exact⟨rfl,rfl⟩|exact rfl
  try walk_nrm
  refine F.enter rfl rfl (by decide) (fun _=>run_call_body rfl func63 (by rfl) (by rfl)) (fun _=>events_call_body rfl func63 (by rfl) (by rfl) _) ?_;walk_nrm;refine K6 A bU bS f3 f4 s3.1 s4.1 s3.2 _ _ (fun g hg kk cB Φ F ht=>hg kk cB Φ F ?_) _;rw[Frame.finish_at];try walk_nrm
  refine F.re ?_;refine F.ctl (fun _=>stepG_end) ?_;refine F.aF rfl rfl func51 (resultsC_none (by rfl) _) ?_;rw[Frame.finish_at];try walk_nrm
  refine F.re ?_;refine F.ctl (fun _=>stepG_end) ?_;refine F.aF rfl rfl func50 (resultsC_none (by rfl) _) ?_;exact G9 Φ F ht
theorem MQ(F:aC prog true (DX Ok) Ψ)(A T x bU bS aX:Nat)(fr:Frame)(cs:List Frame)(w0:World)(G9:xP A cs fr)(Kk:w0.cell? ⟨x,0,none⟩=some (.pointer (some ⟨T,0,none⟩)))(PZ:w0.cell? ⟨x,1,none⟩=some (.int .i64 0))(Yv:w0.frozen? ⟨x,1,none⟩=false)(UR:w0.cell? ⟨T,0,none⟩=some (.pointer (some ⟨A,0,none⟩)))(UQ:w0.cell? ⟨T,3,none⟩=some (.chan (some aX)))(o1:Ok ⟨x,0,none⟩ false)(o2:Ok ⟨x,1,none⟩ false)(o3:Ok ⟨x,1,none⟩ true)(o4:Ok ⟨T,0,none⟩ false)(o5:Ok ⟨T,3,none⟩ false)(Zo:x≠T)(hc:∀a w1,T6 A bU bS aX cs a→Kp [] w0 w1 [⟨x,1,none⟩]→Ψ a w1):
 Ψ (G (Frame.enter prog 144 (#[.pointer (some ⟨x,0,none⟩)]++#[]) .normal) (fr::cs)) w0:=by
 have yV:((0:Int)==0)=true:=rfl;have lx:x<w0.heap.size:=aq PZ;rw[Array.append_empty];rw[enter_at _ func144 rfl];simp only[ntmps144,mV,Nat.reduceAdd,Nat.reduceSub];refine F.bh ?_;iterate 3 (refine F.ak ?_;try walk_nrm)
 refine F.ol rfl rfl rfl fun d K h=>?_;go_simp;refine h _ (fun e m=>?_) ?_;simp[go_sem, *] at m;subst m;exact ff (w:=w0) (by assumption) (by first|assumption|(apply b8<;>dsimp only<;>omega));clear h K d;try walk_nrm
 refine F.ak ?_;try walk_nrm
 refine F.re ?_;refine F.ct rfl ?_;refine F.bh ?_;iterate 3 (refine F.ak ?_;try walk_nrm)
 refine F.op rfl rfl (by decide) (fun d K hK=>?_);go_simp;rw[setCell_at'];refine hK _ _ ⟨DX.set _ (by(first|assumption|(apply b8<;>dsimp only<;>omega))) (fun e he=>?_),?_⟩
 ·have hm:=mem_listed he
  simp[go_sem,storedEv,dh,eM,dm,fB,eB,nj, *] at hm;subst hm;exact .inl ⟨_,rfl,rfl,by(first|assumption|(apply b8<;>dsimp only<;>omega)),by simp only[fV,size_set];first|omega|exact aq (by assumption)⟩
 clear hK K d;try walk_nrm
 generalize bJ:World.setCell w0 _ _=w1;have v8:=lW bJ;replace Yv:=aK Yv bJ;replace Kk:=aS Kk bJ (by simp<;>omega);replace PZ:=dP PZ bJ;replace UR:=aS UR bJ (by simp<;>omega);replace UQ:=aS UQ bJ (by simp<;>omega);have kp:Kp [] w0 w0 [⟨x,1,none⟩]:=Kp.refl _;replace kp:=kp.rD bJ (by first|(left;simp;done)|(right;left;simp;done)|(right;right;dsimp only;omega));refine F.Ey ?_;iterate 3 (refine F.ak ?_;try walk_nrm)
 refine F.ol rfl rfl rfl fun d K h=>?_;go_simp;refine h _ (fun e m=>?_) ?_;simp[go_sem, *] at m;subst m;exact ff (w:=w1) (by assumption) (by first|assumption|(apply b8<;>dsimp only<;>omega));clear h K d;try walk_nrm
 iterate 2 (refine F.ak ?_;try walk_nrm)
 refine F.ol rfl rfl rfl fun d K h=>?_;go_simp;refine h _ (fun e m=>?_) ?_;simp[go_sem, *] at m;subst m;exact ff (w:=w1) (by assumption) (by first|assumption|(apply b8<;>dsimp only<;>omega));clear h K d;try walk_nrm
 refine F.ak ?_;try walk_nrm
 refine F.enter rfl rfl (by decide) (fun _=>run_call_body rfl func155 (by rfl) (by rfl)) (fun _=>events_call_body rfl func155 (by rfl) (by rfl) _) ?_;walk_nrm;rw[enter_at _ func155 rfl];simp only[ntmps155,mV,Nat.reduceAdd,Nat.reduceSub];refine F.sq ?_;refine F.zq (γ:=Unit) (n:=12) mixed [[],[0],[1],[2],[3],[4],[5],[],[7],[8],[9],[6,10]] rfl (by kernel_rfl) (fun b g=>[(4,fZ (b 0) (.pointer (some ⟨x,0,none⟩)) (undef)),(5,fZ (b 1) (.pointer (some ⟨x,0,none⟩)) (undef)),(6,fZ (b 2) (.pointer (some ⟨x,0,none⟩)) (undef)),(7,fZ (b 3) (.pointer (some ⟨T,0,none⟩)) (undef)),(8,fZ (b 4) (.pointer (some ⟨T,0,none⟩)) (undef)),(9,fZ (b 5) (.pointer (some ⟨T,3,none⟩)) (undef)),(10,fZ (b 6) (.chan (some aX)) (undef)),(11,fZ (b 7) (.pointer (some ⟨x,0,none⟩)) (undef)),(12,fZ (b 8) (.pointer (some ⟨x,0,none⟩)) (undef)),(13,fZ (b 9) (.pointer (some ⟨x,1,none⟩)) (undef)),(14,fZ (b 10) (.int .i64 1) (undef))]) (fun b g w=>(b 11=false→w=w1)∧(b 11=true→(False))) (()) (by simp only[pu,Nat.reduceAdd,Nat.reduceEqDiff,reduceIte]) (⟨fun _=>rfl,fun h=>by cases h⟩) (all_cons ?_ (all_cons ?_ (all_cons ?_ (all_cons ?_ (all_cons ?_ (all_cons ?_ (all_cons ?_ (all_cons ?_ (all_cons ?_ (all_cons ?_ (all_cons ?_ (all_cons ?_ (all_nil))))))))))))) ?_
 ·intro b g w hI bp aA cG rest iI cB
  obtain⟨cD,eY⟩:=hI;replace aA:b 0=false:=aA;have Q0:=dN (bp 1 0 rfl) aA;have yO:=dN (bp 2 1 rfl) Q0;have kN:=dN (bp 3 2 rfl) yO;have gW:=dN (bp 4 3 rfl) kN;have uL:=dN (bp 5 4 rfl) gW;have rI:=dN (bp 6 5 rfl) uL;have cF:=dN (bp 11 6 rfl) rI;have gP:=(cD cF).symm;subst gP;simp only[Q0,yO,kN,gW,uL,rI,cF,aA,pu,Nat.reduceAdd,Nat.reduceEqDiff,reduceIte];refine F.ak ?_;try walk_nrm
  have bE:=cB g _ ⟨fun _=>rfl,fun h=>no cF h⟩;simp only[Q0,yO,kN,gW,uL,rI,cF,aA,pu,Nat.reduceAdd,Nat.reduceEqDiff,reduceIte] at bE;exact bE
 ·intro b g w hI bp aA cG rest iI cB
  obtain⟨cD,eY⟩:=hI;replace aA:b 1=false:=aA;have d0:=cG 0 rfl;have yO:=dN (bp 2 1 rfl) aA;have kN:=dN (bp 3 2 rfl) yO;have gW:=dN (bp 4 3 rfl) kN;have uL:=dN (bp 5 4 rfl) gW;have rI:=dN (bp 6 5 rfl) uL;have cF:=dN (bp 11 6 rfl) rI;have gP:=(cD cF).symm;subst gP;simp only[d0,yO,kN,gW,uL,rI,cF,aA,pu,Nat.reduceAdd,Nat.reduceEqDiff,reduceIte];refine F.ak ?_;try walk_nrm
  have bE:=cB g _ ⟨fun _=>rfl,fun h=>no cF h⟩;simp only[d0,yO,kN,gW,uL,rI,cF,aA,pu,Nat.reduceAdd,Nat.reduceEqDiff,reduceIte] at bE;exact bE
 ·intro b g w hI bp aA cG rest iI cB
  obtain⟨cD,eY⟩:=hI;replace aA:b 2=false:=aA;have d1:=cG 1 rfl;have kN:=dN (bp 3 2 rfl) aA;have gW:=dN (bp 4 3 rfl) kN;have uL:=dN (bp 5 4 rfl) gW;have rI:=dN (bp 6 5 rfl) uL;have cF:=dN (bp 11 6 rfl) rI;have gP:=(cD cF).symm;subst gP;simp only[d1,kN,gW,uL,rI,cF,aA,pu,Nat.reduceAdd,Nat.reduceEqDiff,reduceIte];refine F.ak ?_;try walk_nrm
  have bE:=cB g _ ⟨fun _=>rfl,fun h=>no cF h⟩;simp only[d1,kN,gW,uL,rI,cF,aA,pu,Nat.reduceAdd,Nat.reduceEqDiff,reduceIte] at bE;exact bE
 ·intro b g w hI bp aA cG rest iI cB
  obtain⟨cD,eY⟩:=hI;replace aA:b 3=false:=aA;have d2:=cG 2 rfl;have gW:=dN (bp 4 3 rfl) aA;have uL:=dN (bp 5 4 rfl) gW;have rI:=dN (bp 6 5 rfl) uL;have cF:=dN (bp 11 6 rfl) rI;have gP:=(cD cF).symm;subst gP;simp only[d2,gW,uL,rI,cF,aA,pu,Nat.reduceAdd,Nat.reduceEqDiff,reduceIte];refine F.ol rfl rfl rfl fun d K h=>?_;go_simp;refine h _ (fun e m=>?_) ?_;simp[go_sem, *] at m;subst m;exact ff (w:=w1) (by assumption) (by first|assumption|(apply b8<;>dsimp only<;>omega));clear h K d;try walk_nrm
  have bE:=cB g _ ⟨fun _=>rfl,fun h=>no cF h⟩;simp only[d2,gW,uL,rI,cF,aA,pu,Nat.reduceAdd,Nat.reduceEqDiff,reduceIte] at bE;exact bE
 ·intro b g w hI bp aA cG rest iI cB
  obtain⟨cD,eY⟩:=hI;replace aA:b 4=false:=aA;have d3:=cG 3 rfl;have uL:=dN (bp 5 4 rfl) aA;have rI:=dN (bp 6 5 rfl) uL;have cF:=dN (bp 11 6 rfl) rI;have gP:=(cD cF).symm;subst gP;simp only[d3,uL,rI,cF,aA,pu,Nat.reduceAdd,Nat.reduceEqDiff,reduceIte];refine F.ak ?_;try walk_nrm
  have bE:=cB g _ ⟨fun _=>rfl,fun h=>no cF h⟩;simp only[d3,uL,rI,cF,aA,pu,Nat.reduceAdd,Nat.reduceEqDiff,reduceIte] at bE;exact bE
 ·intro b g w hI bp aA cG rest iI cB
  obtain⟨cD,eY⟩:=hI;replace aA:b 5=false:=aA;have d4:=cG 4 rfl;have rI:=dN (bp 6 5 rfl) aA;have cF:=dN (bp 11 6 rfl) rI;have gP:=(cD cF).symm;subst gP;simp only[d4,rI,cF,aA,pu,Nat.reduceAdd,Nat.reduceEqDiff,reduceIte];refine F.ak ?_;try walk_nrm
  have bE:=cB g _ ⟨fun _=>rfl,fun h=>no cF h⟩;simp only[d4,rI,cF,aA,pu,Nat.reduceAdd,Nat.reduceEqDiff,reduceIte] at bE;exact bE
 ·intro b g w hI bp aA cG rest iI cB
  obtain⟨cD,eY⟩:=hI;replace aA:b 6=false:=aA;have d5:=cG 5 rfl;have cF:=dN (bp 11 6 rfl) aA;have gP:=(cD cF).symm;subst gP;simp only[d5,cF,aA,pu,Nat.reduceAdd,Nat.reduceEqDiff,reduceIte];refine F.ol rfl rfl rfl fun d K h=>?_;go_simp;refine h _ (fun e m=>?_) ?_;simp[go_sem, *] at m;subst m;exact ff (w:=w1) (by assumption) (by first|assumption|(apply b8<;>dsimp only<;>omega));clear h K d;try walk_nrm
  have bE:=cB g _ ⟨fun _=>rfl,fun h=>no cF h⟩;simp only[d5,cF,aA,pu,Nat.reduceAdd,Nat.reduceEqDiff,reduceIte] at bE;exact bE
 ·intro b g w hI bp aA cG rest iI cB
  obtain⟨cD,eY⟩:=hI;replace aA:b 7=false:=aA;have dX:=dN (bp 8 7 rfl) aA;have D6:=dN (bp 9 8 rfl) dX;have b9:=dN (bp 10 9 rfl) D6;have cF:=dN (bp 11 10 rfl) b9;have gP:=(cD cF).symm;subst gP;simp only[dX,D6,b9,cF,aA,pu,Nat.reduceAdd,Nat.reduceEqDiff,reduceIte];refine F.ak ?_;try walk_nrm
  have bE:=cB g _ ⟨fun _=>rfl,fun h=>no cF h⟩;simp only[dX,D6,b9,cF,aA,pu,Nat.reduceAdd,Nat.reduceEqDiff,reduceIte] at bE;exact bE
 ·intro b g w hI bp aA cG rest iI cB
  obtain⟨cD,eY⟩:=hI;replace aA:b 8=false:=aA;have d7:=cG 7 rfl;have D6:=dN (bp 9 8 rfl) aA;have b9:=dN (bp 10 9 rfl) D6;have cF:=dN (bp 11 10 rfl) b9;have gP:=(cD cF).symm;subst gP;simp only[d7,D6,b9,cF,aA,pu,Nat.reduceAdd,Nat.reduceEqDiff,reduceIte];refine F.ak ?_;try walk_nrm
  have bE:=cB g _ ⟨fun _=>rfl,fun h=>no cF h⟩;simp only[d7,D6,b9,cF,aA,pu,Nat.reduceAdd,Nat.reduceEqDiff,reduceIte] at bE;exact bE
 ·intro b g w hI bp aA cG rest iI cB
  obtain⟨cD,eY⟩:=hI;replace aA:b 9=false:=aA;have d8:=cG 8 rfl;have b9:=dN (bp 10 9 rfl) aA;have cF:=dN (bp 11 10 rfl) b9;have gP:=(cD cF).symm;subst gP;simp only[d8,b9,cF,aA,pu,Nat.reduceAdd,Nat.reduceEqDiff,reduceIte];refine F.ak ?_;try walk_nrm
  have bE:=cB g _ ⟨fun _=>rfl,fun h=>no cF h⟩;simp only[d8,b9,cF,aA,pu,Nat.reduceAdd,Nat.reduceEqDiff,reduceIte] at bE;exact bE
 ·intro b g w hI bp aA cG rest iI cB
  obtain⟨cD,eY⟩:=hI;replace aA:b 10=false:=aA;have d9:=cG 9 rfl;have cF:=dN (bp 11 10 rfl) aA;have gP:=(cD cF).symm;subst gP;simp only[d9,cF,aA,pu,Nat.reduceAdd,Nat.reduceEqDiff,reduceIte];refine F.ol rfl rfl rfl fun d K h=>?_;go_simp;refine h _ (fun e m=>?_) ?_;simp[go_sem, *] at m;subst m;exact ff (w:=w1) (by assumption) (by first|assumption|(apply b8<;>dsimp only<;>omega));clear h K d;try walk_nrm
  have bE:=cB g _ ⟨fun _=>rfl,fun h=>no cF h⟩;simp only[d9,cF,aA,pu,Nat.reduceAdd,Nat.reduceEqDiff,reduceIte] at bE;exact bE
 ·intro b g w hI bp aA cG rest iI cB
  obtain⟨cD,eY⟩:=hI;replace aA:b 11=false:=aA;have d6:=cG 6 rfl;have d10:=cG 10 rfl;have d9:=bp 10 9 rfl d10;have d8:=bp 9 8 rfl d9;have d7:=bp 8 7 rfl d8;have d5:=bp 6 5 rfl d6;have d4:=bp 5 4 rfl d5;have d3:=bp 4 3 rfl d4;have d2:=bp 3 2 rfl d3;have d1:=bp 2 1 rfl d2;have d0:=bp 1 0 rfl d1;have gP:=(cD aA).symm;subst gP;simp only[d6,d10,d9,d8,d7,d5,d4,d3,d2,d1,d0,aA,pu,Nat.reduceAdd,Nat.reduceEqDiff,reduceIte]
  have RB:rest=[]:=iI (by
   intro j hj AQ
   match j,hj,AQ with
   |0,_,_=>exact d0
   |1,_,_=>exact d1
   |2,_,_=>exact d2
   |3,_,_=>exact d3
   |4,_,_=>exact d4
   |5,_,_=>exact d5
   |6,_,_=>exact d6
   |7,_,_=>exact d7
   |8,_,_=>exact d8
   |9,_,_=>exact d9
   |10,_,_=>exact d10
   |11,_,h=>exact absurd rfl h
   |j+12,h,_=>omega)
  subst RB;refine hc _ w1 ⟨rfl,fun w=>?_,fun K Still B w hK hS=>?_⟩ kp
  ·rw[stepG_comm (cases:=#[scase aX (.int .i64 1) (.tuple #[])]) (blocking:=true) (shape:=.send) (w':=w) rfl rfl (by decide) (by simp[execOp,scase,Act.eval])]
   rw[listed_nil (by simp[go_sem,execOp,Act.eval])]
  ·clear F
   have F:=rX (P:=prog) (K:=K) (Still:=Still) (B:=B) true (lZ bU bS (C9 A bU bS cs)) w;have f3:∀w,K w→w.cell? ⟨A,3,none⟩=some (.chan (some bU)):=fun w h=>hK w h (⟨A,3,none⟩,_) (by simp[rF])
   have f4:∀w,K w→w.cell? ⟨A,4,none⟩=some (.chan (some bS)):=fun w h=>hK w h (⟨A,4,none⟩,_) (by simp[rF])
   have s3:=hS (⟨A,3,none⟩,.chan (some bU)) (by simp[rF]);have s4:=hS (⟨A,4,none⟩,.chan (some bS)) (by simp[rF]);rw[served_fr,Frame.finish_at];try walk_nrm
   refine F.Ey ?_
   apply F.xT rfl rfl (by decide)
   ·intro w hw
    simp[go_sem]
   ·intro w hw
    go_simp
    first|exact⟨rfl,rfl⟩|exact rfl
   try walk_nrm
   refine F.enter rfl rfl (by decide) (fun _=>run_call_body rfl func63 (by rfl) (by rfl)) (fun _=>events_call_body rfl func63 (by rfl) (by rfl) _) ?_;walk_nrm;refine K6 A bU bS f3 f4 s3.1 s4.1 s3.2 _ _ (fun g hg kk cB Φ F ht=>hg kk cB Φ F ?_) _;rw[Frame.finish_at];try walk_nrm
   refine F.re ?_;refine F.ctl (fun _=>stepG_end) ?_;refine F.aF rfl rfl func155 (resultsC_none (by rfl) _) ?_;rw[Frame.finish_at];try walk_nrm
   refine F.re ?_;refine F.ctl (fun _=>stepG_end) ?_;refine F.aF rfl rfl func144 (resultsC_none (by rfl) _) ?_;exact G9 Φ F ht
 intro b g w hI aB;obtain⟨cD,eY⟩:=hI;simp only[aB 0 (by decide),aB 1 (by decide),aB 2 (by decide),aB 3 (by decide),aB 4 (by decide),aB 5 (by decide),aB 6 (by decide),aB 7 (by decide),aB 8 (by decide),aB 9 (by decide),aB 10 (by decide),aB 11 (by decide),pu,Nat.reduceAdd,Nat.reduceEqDiff,reduceIte];exact(eY (aB 11 (by decide))).elim
end
end Go.Proofs.YtobagnjnbmgidaaGreatDoor
