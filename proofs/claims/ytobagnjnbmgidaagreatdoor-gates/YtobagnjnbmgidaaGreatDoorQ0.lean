import Derived.Conc.Listed
import Derived.Test.YtobagnjnbmgidaaGreatDoorX8
set_option linter.all false
namespace Go.Proofs.YtobagnjnbmgidaaGreatDoor
open Go.Conc Go.RowKit
variable{ats:Array TypeId}{t:TypeId}{c:aE}{r x:ay}
variable{P:aI}{main:Bool}{D:zx}{Ψ:gi}{b:aE}{a:Act}{k todo:eF}{cs:cW}{w:aj}{g:b9}{i:Nat}{rest:aP}{o:Oper}{f:FuncId}{fn:Func}{cap:fW}{ds:xh}{v:ay}
def jX(e:Event):Prop:=∀(quiet:FuncId->Bool)(q:Bool)(kept:dL),(seenStep quiet (q,kept) e).2=kept
theorem jX.loc{e:Event}(h:jX e)(z:Addr):e.loc≠.cell z:=λd=>by
 have:=h (λ_=>false) false #[];simp[seenStep,d]at this
theorem Dr(quiet:FuncId->Bool)(q:Bool)(kept:dL)(a e:Event)(h:e∈(seenStep quiet (q,kept) a).2):e∈kept\/(e=a/\¬jX a):=by
 by_cases hk:(seenStep quiet (q,kept) a).2=kept
 .rw[hk]at h
  exact .inl h
 have d:¬jX a:=λz=>hk (z quiet q kept)
 simp only[seenStep]at h
 split at h
 .exact .inl h
 .split at h
  .exact .inl h
  .rcases Array.mem_push.1 h with h|h
   .exact .inl h
   .exact .inr ⟨h,d⟩
theorem zR(quiet:FuncId->Bool):∀(l:VI)(x:Bool×Array Event)(e:Event),e∈(l.foldl (seenStep quiet) x).2->e∈x.2\/¬jX e:=by
 intro l
 induction l with
 |nil=>exact λ_ _ h=>.inl h
 |cons a l d=>
  intro x e h;rcases d _ _ h with h|h
  .rcases Dr quiet x.1 x.2 a e h with h|⟨rfl,h⟩
   .exact .inl h
   .exact .inr h
  .exact .inr h
theorem yl{fn:FuncId}{e:Event}(h:e∈listed P fn a o w):e∈(execOp a.eval o).events P w #[]/\¬jX e:=by
 refine⟨ME h,?_⟩;unfold listed at h;rw[seen_def]at h;rcases zR _ _ (_,#[]) e h with h|h
 .simp at h
 .exact h
theorem D7(f:FuncId):jX ⟨.mark (.extern f),false,true⟩:=λ_ _ _=>rfl
theorem aC.ZC(F:aC P main D Ψ)(ho:g[i]? =some o)(u:Region.wanted o (yielded g a.tmps)=true)(hk:b.kind≠.early)(h:∀d,∀K:Act->World->Prop,(∀a' w' (S:dL),(∀e∈raw P a o (w.at d),e∈S\/jX e)->D (w.at d) (w'.at d) S/\Ψ (G (b.at a' (.inRegion g rest::k)) cs) w'->K a' (w'.at d))->uponK o a K ((execOp a.eval o).run P (w.at d))):
 Ψ (G (b.at a (.inRegion g (i::rest)::k)) cs) w:=
 F.step _ _ rfl λd=>by
  have l:=h d (λa' W=>∃S:Array Event,(∀e∈raw P a o (w.at d),e∈S\/jX e)/\D (w.at d) W S/\Ψ (G (b.at a' (.inRegion g rest::k)) cs) W) λa' w' S J x=>⟨S,J,x.1,F.at' _ _ _ x.2⟩
  have p:∀S:Array Event,(∀e∈raw P a o (w.at d),e∈S\/jX e)->∀e∈listed P b.fn a o (w.at d),e∈S:=λS L e q=>by
   obtain⟨I,H⟩:=yl q;exact(L e I).resolve_right H
  cases j:(execOp a.eval o).run P (w.at d)with
  |halt _ _=>rw[j]at l;exact l.elim
  |ok x M=>
   rw[j]at l;cases x
   case value v=>
    obtain⟨S,n,m,A⟩:=l;refine⟨_,_,_,stepG_value ho u hk j,F.less _ _ _ _ m (p S n),A,λz v B C=>?_⟩;obtain⟨E,s⟩:=sj v j (λe q=>(n e q).elim (B _ _ _ m e) λy=>y.loc z) C;rw[stepG_value ho u hk E];unfold listed;unfold raw at s;rw[s]
   case skip=>
    obtain⟨S,n,m,A⟩:=l;refine⟨_,_,_,stepG_none ho u hk j,F.less _ _ _ _ m (p S n),A,λz v B C=>?_⟩;obtain⟨E,s⟩:=sj v j (λe q=>(n e q).elim (B _ _ _ m e) λy=>y.loc z) C;rw[stepG_none ho u hk E];unfold listed;unfold raw at s;rw[s]
   all_goals exact l.elim
def iY(f:FuncId)(cap:fW):Deferred:={target:=.fn (.func f) cap,args:=#[]}
theorem vD(ho:g[i]? =some o)(l:Region.wanted o (yielded g a.tmps)=true)(hk:b.kind≠.early)(m:b.roundOf=none){r:Operand}(d:o.op=.defer {callee:=.value r,args:=#[],argTypes:=ats})(j:a.eval r=.func (.func f) #[] cap):
 stepG P main (G (b.at a (.inRegion g (i::rest)::k)) cs) w=.go (G (b.at (Act.put ⟨a.tmps,iY f cap::a.defers⟩ o.dst undef) (.inRegion g rest::k)) cs) w #[]:=by
 have p:(execOp a.eval o).run P w=.ok (.defer (iY f cap)) w:=by
  unfold execOp;simp[d,resolve,Deferred.ofValue,j,iY]
 have n:(execOp a.eval o).events P w #[]=#[]:=by
  unfold execOp;simp[d,resolve,Deferred.ofValue,j]
 have e:(b.at ⟨a.tmps,iY f cap::a.defers⟩ (.inRegion g (i::rest)::k)).finish undef=b.at (Act.put ⟨a.tmps,iY f cap::a.defers⟩ o.dst undef) (.inRegion g rest::k):=by rw[bO,ho];rfl
 have h:(b.kind==CallKind.early)=false:=by simpa using hk
 rw[stepG_oper ho l,<-e];simp[stepG.apply,p,n,G,Frame.at,h,GStep.after,seen_none]
theorem aC.HH(F:aC P main D Ψ)(ho:g[i]? =some o)(j:Region.wanted o (yielded g a.tmps)=true)(hk:b.kind≠.early)(d:b.roundOf=none){r:Operand}(e:o.op=.defer {callee:=.value r,args:=#[],argTypes:=ats})(l:a.eval r=.func (.func f) #[] cap)(h:Ψ (G (b.at (Act.put ⟨a.tmps,iY f cap::a.defers⟩ o.dst undef) (.inRegion g rest::k)) cs) w):Ψ (G (b.at a (.inRegion g (i::rest)::k)) cs) w:=
 F.ctl (λ_=>vD ho j hk d e l) h
theorem mP{c:Code}(j:a.defers=iY f cap::ds)(e:P.funcs[f]? =some fn)(d:(fn.name== "runtime.NumGoroutine")=false)(h:fn.body=some c):
 stepG P main (G {b.at a todo with mode:=.returning} cs) w=
  .go (G ((baseD f).at {tmps:=cap++Array.replicate (fn.ntmps-cap.size) undef,defers:=[]} [.code c]) ({b.at ⟨a.tmps,ds⟩ todo with mode:=.returning}::cs)) w #[]:=by
 have l:¬fn.name= "runtime.NumGoroutine" :=by simpa using d
 rw[<-enter_atD cap e h];simp[G,stepG,unwind,callDeferred,Frame.at,j,iY,invoke,callFunc,e,l,h,GStep.after,seen_none]
theorem aC.IF(F:aC P main D Ψ){c:Code}(j:a.defers=iY f cap::ds)(e:P.funcs[f]? =some fn)(d:(fn.name== "runtime.NumGoroutine")=false)(l:fn.body=some c)(h:Ψ (G ((baseD f).at {tmps:=cap++Array.replicate (fn.ntmps-cap.size) undef,defers:=[]} [.code c]) ({b.at ⟨a.tmps,ds⟩ todo with mode:=.returning}::cs)) w):Ψ (G {b.at a todo with mode:=.returning} cs) w:=
 F.ctl (λ_=>mP j e d l) h
theorem jJ(ho:g[i]? =some o)(j:Region.wanted o (yielded g a.tmps)=true)(hk:b.kind=.deferred)(h:b.roundOf=none)(d:o.op=.call {callee:=.builtin .recover,args:=#[],argTypes:=ats})(hc:c.mode=.returning):
 stepG P main (G (b.at a (.inRegion g (i::rest)::k)) (c::cs)) w=.go (G (b.at (a.put o.dst .nilIface) (.inRegion g rest::k)) (c::cs)) w #[]:=by
 have m:(execOp a.eval o).run P w=.ok .recover w:=by
  unfold execOp;simp[d,resolve,invoke,builtin]
 have l:(execOp a.eval o).events P w #[]=#[]:=by
  unfold execOp;simp[d,resolve,invoke,builtin]
 have e:(b.at a (.inRegion g (i::rest)::k)).finish .nilIface=b.at (a.put o.dst .nilIface) (.inRegion g rest::k):=by rw[bO,ho];rfl
 rw[stepG_oper ho j,<-e];simp[stepG.apply,m,l,G,Frame.at,hk,h,GStep.after,seen_none,tryRecover,hc]
theorem aC.zX(F:aC P main D Ψ)(ho:g[i]? =some o)(j:Region.wanted o (yielded g a.tmps)=true)(hk:b.kind=.deferred)(d:b.roundOf=none)(e:o.op=.call {callee:=.builtin .recover,args:=#[],argTypes:=ats})(hc:c.mode=.returning)(h:Ψ (G (b.at (a.put o.dst .nilIface) (.inRegion g rest::k)) (c::cs)) w):Ψ (G (b.at a (.inRegion g (i::rest)::k)) (c::cs)) w:=
 F.ctl (λ_=>jJ ho j hk d e hc) h
theorem aC.leaveD(F:aC P main D Ψ)(e:b.kind=.deferred)(l:a.defers=[])(j:P.funcs[b.fn]? =some fn)(d:ResultsC P fn a.tmps v)(hc:c.mode=.returning)(h:Ψ (G c cs) w):Ψ (G {b.at a todo with mode:=.returning} (c::cs)) w:=
 F.ctl (λw=>stepG_leave_deferred e l j (d w).1 (d w).2 hc) h
abbrev jy(v:ay):List PanicEntry:=[{v,recovered:=false}]
abbrev pY(v:ay):List PanicEntry:=[{v,recovered:=true}]
theorem xJ(ho:g[i]? =some o)(h:Region.wanted o (yielded g a.tmps)=true)(j:b.mode=.run){r:Operand}(d:o.op=.panic r)(e:a.eval r=.iface t x):
 stepG P main (G (b.at a (.inRegion g (i::rest)::k)) cs) w=.go (G {b.at a (.inRegion g (i::rest)::k)with mode:=.panicking (jy (.iface t x))} cs) w #[]:=by
 have m:(execOp a.eval o).run P w=.halt (.panic (.iface t x)) w:=by
  unfold execOp;simp[d,e,Instr.panic,goPanic]
 have l:(execOp a.eval o).events P w #[]=#[]:=by
  unfold execOp;simp[d,e,Instr.panic,goPanic]
 rw[stepG_oper ho h];simp[stepG.apply,m,l,G,Frame.at,Frame.raise,GStep.after,seen_none,j]
theorem aC.panic(F:aC P main D Ψ)(ho:g[i]? =some o)(e:Region.wanted o (yielded g a.tmps)=true)(l:b.mode=.run){r:Operand}(d:o.op=.panic r)(j:a.eval r=.iface t x)(h:Ψ (G {b.at a (.inRegion g (i::rest)::k)with mode:=.panicking (jy (.iface t x))} cs) w):Ψ (G (b.at a (.inRegion g (i::rest)::k)) cs) w:=
 F.ctl (λ_=>xJ ho e l d j) h
theorem rS{c:aE}{ch:List PanicEntry}(e:a.defers=[])(d:P.funcs[b.fn]? =some fn):stepG P main (G {b.at a todo with mode:=.panicking ch} (c::cs)) w=.go (G (c.raise ch) cs) w #[]:=by
 simp[G,stepG,unwind,Frame.at,e,Frame.catches,d]
theorem aC.ow(F:aC P main D Ψ){ch:List PanicEntry}(e:a.defers=[])(d:P.funcs[b.fn]? =some fn)(h:Ψ (G (c.raise ch) cs) w):Ψ (G {b.at a todo with mode:=.panicking ch} (c::cs)) w:=
 F.ctl (λ_=>rS e d) h
theorem tM{c:Code}{ch:List PanicEntry}(j:a.defers=iY f cap::ds)(e:P.funcs[f]? =some fn)(d:(fn.name== "runtime.NumGoroutine")=false)(h:fn.body=some c):
 stepG P main (G {b.at a todo with mode:=.panicking ch} cs) w=
  .go (G ((baseD f).at {tmps:=cap++Array.replicate (fn.ntmps-cap.size) undef,defers:=[]} [.code c]) ({b.at ⟨a.tmps,ds⟩ todo with mode:=.panicking ch}::cs)) w #[]:=by
 have l:¬fn.name= "runtime.NumGoroutine" :=by simpa using d
 rw[<-enter_atD cap e h];simp[G,stepG,unwind,callDeferred,Frame.at,j,iY,invoke,callFunc,e,l,h,GStep.after,seen_none]
theorem aC.IE(F:aC P main D Ψ){c:Code}{ch:List PanicEntry}(j:a.defers=iY f cap::ds)(e:P.funcs[f]? =some fn)(d:(fn.name== "runtime.NumGoroutine")=false)(l:fn.body=some c)(h:Ψ (G ((baseD f).at {tmps:=cap++Array.replicate (fn.ntmps-cap.size) undef,defers:=[]} [.code c]) ({b.at ⟨a.tmps,ds⟩ todo with mode:=.panicking ch}::cs)) w):Ψ (G {b.at a todo with mode:=.panicking ch} cs) w:=
 F.ctl (λ_=>tM j e d l) h
theorem tN(ho:g[i]? =some o)(j:Region.wanted o (yielded g a.tmps)=true)(hk:b.kind=.deferred)(h:b.roundOf=none)(d:o.op=.call {callee:=.builtin .recover,args:=#[],argTypes:=ats})(hc:c.mode=.panicking (jy v)):
 stepG P main (G (b.at a (.inRegion g (i::rest)::k)) (c::cs)) w=.go (G (b.at (a.put o.dst v) (.inRegion g rest::k)) ({c with mode:=.panicking (pY v)}::cs)) w #[]:=by
 have m:(execOp a.eval o).run P w=.ok .recover w:=by
  unfold execOp;simp[d,resolve,invoke,builtin]
 have l:(execOp a.eval o).events P w #[]=#[]:=by
  unfold execOp;simp[d,resolve,invoke,builtin]
 have e:(b.at a (.inRegion g (i::rest)::k)).finish v=b.at (a.put o.dst v) (.inRegion g rest::k):=by rw[bO,ho];rfl
 rw[stepG_oper ho j,<-e];simp[stepG.apply,m,l,G,Frame.at,hk,h,GStep.after,seen_none,tryRecover,hc]
theorem aC.recover(F:aC P main D Ψ)(ho:g[i]? =some o)(j:Region.wanted o (yielded g a.tmps)=true)(hk:b.kind=.deferred)(d:b.roundOf=none)(e:o.op=.call {callee:=.builtin .recover,args:=#[],argTypes:=ats})(hc:c.mode=.panicking (jy v))(h:Ψ (G (b.at (a.put o.dst v) (.inRegion g rest::k)) ({c with mode:=.panicking (pY v)}::cs)) w):Ψ (G (b.at a (.inRegion g (i::rest)::k)) (c::cs)) w:=
 F.ctl (λ_=>tN ho j hk d e hc) h
theorem vC(e:b.kind=.deferred)(l:a.defers=[])(h:P.funcs[b.fn]? =some fn)(d:∀w,(results fn a.tmps).run P w=.ok r w)(j:∀w,(results fn a.tmps).events P w #[]=#[])(hc:c.mode=.panicking (pY v)):
 stepG P main (G {b.at a todo with mode:=.returning} (c::cs)) w=.go (G {c with mode:=.returning} cs) w #[]:=by
 simp[G,stepG,unwind,doReturn,Frame.at,l,h,d w,j w,e,hc,GStep.after,seen_none]
theorem aC.N1(F:aC P main D Ψ)(e:b.kind=.deferred)(l:a.defers=[])(j:P.funcs[b.fn]? =some fn)(d:ResultsC P fn a.tmps r)(hc:c.mode=.panicking (pY v))(h:Ψ (G {c with mode:=.returning} cs) w):Ψ (G {b.at a todo with mode:=.returning} (c::cs)) w:=
 F.ctl (λ_=>vC e l j (λw=>(d w).1) (λw=>(d w).2) hc) h
end Go.Proofs.YtobagnjnbmgidaaGreatDoor
