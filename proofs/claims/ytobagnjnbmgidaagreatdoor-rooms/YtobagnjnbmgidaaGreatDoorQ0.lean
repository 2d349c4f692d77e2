import Derived.Conc.Listed
import Derived.Test.YtobagnjnbmgidaaGreatDoorX8
set_option linter.all false
namespace Go.Proofs.YtobagnjnbmgidaaGreatDoor
open Go.Conc Go.RowKit
variable{ats:Array TypeId}{d:Deferred}{t:TypeId}{c:aC}{r x:ay}
variable{P:aG}{m:Bool}{D:yW}{u:gi}{b:aC}{a:Act}{k p:eC}{s:cO}{w:aj}{g:cm}{i:Nat}{j:aN}{o:Oper}{f:FuncId}{fn:Func}{n:gd}{ds:wN}{v:ay}
def Yk(e:Event):Prop:=∀(quiet:FuncId->Bool)(q:Bool)(kept:dS),(seenStep quiet (q,kept) e).2=kept
theorem Yk.loc{e:Event}(h:Yk e)(z:Addr):e.loc≠.cell z:=λa=>by
 have:=h (λ_=>false) false #[];simp[seenStep,a]at this
theorem Cr(quiet:FuncId->Bool)(q:Bool)(kept:dS)(a e:Event)(h:e∈(seenStep quiet (q,kept) a).2):e∈kept\/(e=a/\¬Yk a):=by
 by_cases b:(seenStep quiet (q,kept) a).2=kept
 .rw[b]at h;exact .inl h
 have c:¬Yk a:=λz=>b (z quiet q kept);simp only[seenStep]at h;split at h
 .exact .inl h
 .split at h
  .exact .inl h
  .rcases Array.mem_push.1 h with h|h
   .exact .inl h
   .exact .inr ⟨h,c⟩
theorem zu(quiet:FuncId->Bool):∀(l:TR)(x:Bool×Array Event)(e:Event),e∈(l.foldl (seenStep quiet) x).2->e∈x.2\/¬Yk e:=by
 intro l;induction l with
 |nil=>exact λ_ _ h=>.inl h
 |cons a l b=>
  intro x e h;rcases b _ _ h with h|h
  .rcases Cr quiet x.1 x.2 a e h with h|⟨rfl,h⟩
   .exact .inl h
   .exact .inr h
  .exact .inr h
theorem xS{fn:FuncId}{e:Event}(h:e∈listed P fn a o w):e∈(execOp a.eval o).events P w #[]/\¬Yk e:=by
 refine⟨Ly h,?_⟩;unfold listed at h;rw[seen_def]at h;rcases zu _ _ (_,#[]) e h with h|h
 .simp at h
 .exact h
theorem Dc(f:FuncId):Yk ⟨.mark (.extern f),false,true⟩:=λ_ _ _=>rfl
theorem aB.W5(F:aB P m D u)(A:g[i]? =some o)(t:Region.wanted o (yielded g a.tmps)=true)(B:b.kind≠.early)(h:∀d,∀K:Act->World->Prop,(∀q r (S:dS),(∀e∈raw P a o (w.at d),e∈S\/Yk e)->D (w.at d) (r.at d) S/\u (G (b.at q (.inRegion g j::k)) s) r->K q (r.at d))->uponK o a K ((execOp a.eval o).run P (w.at d))):
 u (G (b.at a (.inRegion g (i::j)::k)) s) w:=
 F.step _ _ rfl λd=>by
  have f:=h d (λq W=>∃S:Array Event,(∀e∈raw P a o (w.at d),e∈S\/Yk e)/\D (w.at d) W S/\u (G (b.at q (.inRegion g j::k)) s) W) λq r S h x=>⟨S,h,x.1,F.at' _ _ _ x.2⟩
  have l:∀S:Array Event,(∀e∈raw P a o (w.at d),e∈S\/Yk e)->∀e∈listed P b.fn a o (w.at d),e∈S:=λS i e n=>by
   obtain⟨h,b⟩:=xS n;exact(i e h).resolve_right b
  cases c:(execOp a.eval o).run P (w.at d)with
  |halt _ _=>rw[c]at f;exact f.elim
  |ok x a=>
   rw[c]at f;cases x
   case value v=>
    obtain⟨S,b,a,d⟩:=f;refine⟨_,_,_,stepG_value A t B c,F.less _ _ _ _ a (l S b),d,λz v h i=>?_⟩;obtain⟨k,p⟩:=rP v c (λe n=>(b e n).elim (h _ _ _ a e) λy=>y.loc z) i;rw[stepG_value A t B k];unfold listed;unfold raw at p;rw[p]
   case skip=>
    obtain⟨S,b,a,d⟩:=f;refine⟨_,_,_,stepG_none A t B c,F.less _ _ _ _ a (l S b),d,λz v h i=>?_⟩;obtain⟨k,p⟩:=rP v c (λe n=>(b e n).elim (h _ _ _ a e) λy=>y.loc z) i;rw[stepG_none A t B k];unfold listed;unfold raw at p;rw[p]
   all_goals exact f.elim
def mV(f:FuncId)(n:gd):Deferred:={target:=.fn (.func f) n,args:=#[]}
def DC(d:Deferred)(f:FuncId)(v:gd):Prop:=∃c,d.target=.fn (.func f) c/\d.args++c=v
theorem Hr{f:FuncId}:DC (mV f n) f n:=⟨n,rfl,by simp[mV]⟩
theorem vo(e:g[i]? =some o)(h:Region.wanted o (yielded g a.tmps)=true)(c:b.kind≠.early)(c:b.roundOf=none){r:Operand}(c:o.op=.defer {callee:=.value r,args:=#[],argTypes:=ats})(d:a.eval r=.func (.func f) #[] n):
 stepG P m (G (b.at a (.inRegion g (i::j)::k)) s) w=.go (G (b.at (Act.put ⟨a.tmps,mV f n::a.defers⟩ o.dst undef) (.inRegion g j::k)) s) w #[]:=by
 have p:(execOp a.eval o).run P w=.ok (.defer (mV f n)) w:=by
  unfold execOp;simp[c,resolve,Deferred.ofValue,d,mV]
 have l:(execOp a.eval o).events P w #[]=#[]:=by
  unfold execOp;simp[c,resolve,Deferred.ofValue,d]
 have c:(b.at ⟨a.tmps,mV f n::a.defers⟩ (.inRegion g (i::j)::k)).finish undef=b.at (Act.put ⟨a.tmps,mV f n::a.defers⟩ o.dst undef) (.inRegion g j::k):=by rw[bQ,e];rfl
 have a:(b.kind==CallKind.early)=false:=by simp_all
 rw[stepG_oper e h,<-c];simp[stepG.apply,p,l,G,Frame.at,a,GStep.after,seen_none]
theorem aB.GD(F:aB P m D u)(p:g[i]? =some o)(e:Region.wanted o (yielded g a.tmps)=true)(q:b.kind≠.early)(c:b.roundOf=none){r:Operand}(d:o.op=.defer {callee:=.value r,args:=#[],argTypes:=ats})(l:a.eval r=.func (.func f) #[] n)(h:u (G (b.at (Act.put ⟨a.tmps,mV f n::a.defers⟩ o.dst undef) (.inRegion g j::k)) s) w):u (G (b.at a (.inRegion g (i::j)::k)) s) w:=
 F.ctl (λ_=>vo p e q c d l) h
theorem mM{c:Code}(l:a.defers=d::ds)(g:DC d f n)(h:P.funcs[f]? =some fn)(e:(fn.name== "runtime.NumGoroutine")=false)(i:fn.body=some c):
 stepG P m (G {b.at a p with mode:=.returning} s) w=
  .go (G ((baseD f).at {tmps:=n++Array.replicate (fn.ntmps-n.size) undef,defers:=[]} [.code c]) ({b.at ⟨a.tmps,ds⟩ p with mode:=.returning}::s)) w #[]:=by
 have o:¬fn.name= "runtime.NumGoroutine" :=by simp_all
 obtain⟨a,k,j⟩:=g;obtain⟨a,a⟩:=d;simp only at k j;subst k;rw[<-enter_atD n h i];simp[G,stepG,unwind,callDeferred,Frame.at,l,j,invoke,callFunc,h,o,i,GStep.after,seen_none]
theorem tj{c:Code}(g:a.defers=mV f n::ds)(e:P.funcs[f]? =some fn)(d:(fn.name== "runtime.NumGoroutine")=false)(h:fn.body=some c):
 stepG P m (G {b.at a p with mode:=.returning} s) w=
  .go (G ((baseD f).at {tmps:=n++Array.replicate (fn.ntmps-n.size) undef,defers:=[]} [.code c]) ({b.at ⟨a.tmps,ds⟩ p with mode:=.returning}::s)) w #[]:=mM g Hr e d h
theorem aB.HK(F:aB P m D u){c:Code}(i:a.defers=d::ds)(e:DC d f n)(g:P.funcs[f]? =some fn)(d:(fn.name== "runtime.NumGoroutine")=false)(j:fn.body=some c)(h:u (G ((baseD f).at {tmps:=n++Array.replicate (fn.ntmps-n.size) undef,defers:=[]} [.code c]) ({b.at ⟨a.tmps,ds⟩ p with mode:=.returning}::s)) w):u (G {b.at a p with mode:=.returning} s) w:=
 F.ctl (λ_=>mM i e g d j) h
theorem Qh(f:g[i]? =some o)(h:Region.wanted o (yielded g a.tmps)=true)(l:b.kind=.deferred)(e:b.roundOf=none)(d:o.op=.call {callee:=.builtin .recover,args:=#[],argTypes:=ats})(p:c.mode=.returning):
 stepG P m (G (b.at a (.inRegion g (i::j)::k)) (c::s)) w=.go (G (b.at (a.put o.dst .nilIface) (.inRegion g j::k)) (c::s)) w #[]:=by
 have q:(execOp a.eval o).run P w=.ok .recover w:=by
  unfold execOp;simp[d,resolve,invoke,builtin]
 have n:(execOp a.eval o).events P w #[]=#[]:=by
  unfold execOp;simp[d,resolve,invoke,builtin]
 have c:(b.at a (.inRegion g (i::j)::k)).finish .nilIface=b.at (a.put o.dst .nilIface) (.inRegion g j::k):=by rw[bQ,f];rfl
 rw[stepG_oper f h,<-c];simp[stepG.apply,q,n,G,Frame.at,l,e,GStep.after,seen_none,tryRecover,p]
theorem aB.zC(F:aB P m D u)(l:g[i]? =some o)(f:Region.wanted o (yielded g a.tmps)=true)(n:b.kind=.deferred)(d:b.roundOf=none)(e:o.op=.call {callee:=.builtin .recover,args:=#[],argTypes:=ats})(p:c.mode=.returning)(h:u (G (b.at (a.put o.dst .nilIface) (.inRegion g j::k)) (c::s)) w):u (G (b.at a (.inRegion g (i::j)::k)) (c::s)) w:=
 F.ctl (λ_=>Qh l f n d e p) h
theorem aB.leaveD(F:aB P m D u)(e:b.kind=.deferred)(g:a.defers=[])(f:P.funcs[b.fn]? =some fn)(d:ResultsC P fn a.tmps v)(i:c.mode=.returning)(h:u (G c s) w):u (G {b.at a p with mode:=.returning} (c::s)) w:=
 F.ctl (λw=>stepG_leave_deferred e g f (d w).1 (d w).2 i) h
abbrev je(v:ay):List PanicEntry:=[{v,recovered:=false}]
abbrev pG(v:ay):List PanicEntry:=[{v,recovered:=true}]
theorem xu(f:g[i]? =some o)(e:Region.wanted o (yielded g a.tmps)=true)(h:b.mode=.run){r:Operand}(c:o.op=.panic r)(d:a.eval r=.iface t x):
 stepG P m (G (b.at a (.inRegion g (i::j)::k)) s) w=.go (G {b.at a (.inRegion g (i::j)::k)with mode:=.panicking (je (.iface t x))} s) w #[]:=by
 have i:(execOp a.eval o).run P w=.halt (.panic (.iface t x)) w:=by
  unfold execOp;simp[c,d,Instr.panic,goPanic]
 have b:(execOp a.eval o).events P w #[]=#[]:=by
  unfold execOp;simp[c,d,Instr.panic,goPanic]
 rw[stepG_oper f e];simp[stepG.apply,i,b,G,Frame.at,Frame.raise,GStep.after,seen_none,h]
theorem aB.panic(F:aB P m D u)(f:g[i]? =some o)(d:Region.wanted o (yielded g a.tmps)=true)(l:b.mode=.run){r:Operand}(c:o.op=.panic r)(e:a.eval r=.iface t x)(h:u (G {b.at a (.inRegion g (i::j)::k)with mode:=.panicking (je (.iface t x))} s) w):u (G (b.at a (.inRegion g (i::j)::k)) s) w:=
 F.ctl (λ_=>xu f d l c e) h
theorem rD{c:aC}{ch:List PanicEntry}(e:a.defers=[])(d:P.funcs[b.fn]? =some fn):stepG P m (G {b.at a p with mode:=.panicking ch} (c::s)) w=.go (G (c.raise ch) s) w #[]:=by
 simp[G,stepG,unwind,Frame.at,e,Frame.catches,d]
theorem aB.lJ(F:aB P m D u){ch:List PanicEntry}(e:a.defers=[])(d:P.funcs[b.fn]? =some fn)(h:u (G (c.raise ch) s) w):u (G {b.at a p with mode:=.panicking ch} (c::s)) w:=
 F.ctl (λ_=>rD e d) h
theorem td{c:Code}{ch:List PanicEntry}(l:a.defers=d::ds)(g:DC d f n)(h:P.funcs[f]? =some fn)(e:(fn.name== "runtime.NumGoroutine")=false)(i:fn.body=some c):
 stepG P m (G {b.at a p with mode:=.panicking ch} s) w=
  .go (G ((baseD f).at {tmps:=n++Array.replicate (fn.ntmps-n.size) undef,defers:=[]} [.code c]) ({b.at ⟨a.tmps,ds⟩ p with mode:=.panicking ch}::s)) w #[]:=by
 have o:¬fn.name= "runtime.NumGoroutine" :=by simp_all
 obtain⟨a,k,j⟩:=g;obtain⟨a,a⟩:=d;simp only at k j;subst k;rw[<-enter_atD n h i];simp[G,stepG,unwind,callDeferred,Frame.at,l,j,invoke,callFunc,h,o,i,GStep.after,seen_none]
theorem aB.HJ(F:aB P m D u){c:Code}{ch:List PanicEntry}(i:a.defers=d::ds)(e:DC d f n)(g:P.funcs[f]? =some fn)(d:(fn.name== "runtime.NumGoroutine")=false)(j:fn.body=some c)(h:u (G ((baseD f).at {tmps:=n++Array.replicate (fn.ntmps-n.size) undef,defers:=[]} [.code c]) ({b.at ⟨a.tmps,ds⟩ p with mode:=.panicking ch}::s)) w):u (G {b.at a p with mode:=.panicking ch} s) w:=
 F.ctl (λ_=>td i e g d j) h
theorem tu(f:g[i]? =some o)(h:Region.wanted o (yielded g a.tmps)=true)(l:b.kind=.deferred)(e:b.roundOf=none)(d:o.op=.call {callee:=.builtin .recover,args:=#[],argTypes:=ats})(p:c.mode=.panicking (je v)):
 stepG P m (G (b.at a (.inRegion g (i::j)::k)) (c::s)) w=.go (G (b.at (a.put o.dst v) (.inRegion g j::k)) ({c with mode:=.panicking (pG v)}::s)) w #[]:=by
 have q:(execOp a.eval o).run P w=.ok .recover w:=by
  unfold execOp;simp[d,resolve,invoke,builtin]
 have n:(execOp a.eval o).events P w #[]=#[]:=by
  unfold execOp;simp[d,resolve,invoke,builtin]
 have c:(b.at a (.inRegion g (i::j)::k)).finish v=b.at (a.put o.dst v) (.inRegion g j::k):=by rw[bQ,f];rfl
 rw[stepG_oper f h,<-c];simp[stepG.apply,q,n,G,Frame.at,l,e,GStep.after,seen_none,tryRecover,p]
theorem aB.recover(F:aB P m D u)(l:g[i]? =some o)(f:Region.wanted o (yielded g a.tmps)=true)(n:b.kind=.deferred)(d:b.roundOf=none)(e:o.op=.call {callee:=.builtin .recover,args:=#[],argTypes:=ats})(p:c.mode=.panicking (je v))(h:u (G (b.at (a.put o.dst v) (.inRegion g j::k)) ({c with mode:=.panicking (pG v)}::s)) w):u (G (b.at a (.inRegion g (i::j)::k)) (c::s)) w:=
 F.ctl (λ_=>tu l f n d e p) h
theorem vn(e:b.kind=.deferred)(h:a.defers=[])(f:P.funcs[b.fn]? =some fn)(d:∀w,(results fn a.tmps).run P w=.ok r w)(g:∀w,(results fn a.tmps).events P w #[]=#[])(i:c.mode=.panicking (pG v)):
 stepG P m (G {b.at a p with mode:=.returning} (c::s)) w=.go (G {c with mode:=.returning} s) w #[]:=by
 simp[G,stepG,unwind,doReturn,Frame.at,h,f,d w,g w,e,i,GStep.after,seen_none]
theorem aB.MQ(F:aB P m D u)(e:b.kind=.deferred)(g:a.defers=[])(f:P.funcs[b.fn]? =some fn)(d:ResultsC P fn a.tmps r)(i:c.mode=.panicking (pG v))(h:u (G {c with mode:=.returning} s) w):u (G {b.at a p with mode:=.returning} (c::s)) w:=
 F.ctl (λ_=>vn e g f (λw=>(d w).1) (λw=>(d w).2) i) h
end Go.Proofs.YtobagnjnbmgidaaGreatDoor
