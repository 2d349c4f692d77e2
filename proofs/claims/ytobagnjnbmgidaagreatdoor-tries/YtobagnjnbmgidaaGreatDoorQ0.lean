import Derived.Conc.Listed
import Derived.Test.YtobagnjnbmgidaaGreatDoorX8
set_option linter.all false
namespace Go.Proofs.YtobagnjnbmgidaaGreatDoor
section
open Go.Conc Go.RowKit
def kM(e:Event):Prop:=∀(quiet:FuncId→Bool)(q:Bool)(kept:Array Event),(seenStep quiet (q,kept) e).2=kept
theorem kM.loc{e:Event}(h:kM e)(z:Addr):e.loc≠.cell z:=fun he=>by
 have:=h (fun _=>false) false #[];simp[seenStep,he] at this
theorem D1(quiet:FuncId→Bool)(q:Bool)(kept:Array Event)(a e:Event)(h:e∈(seenStep quiet (q,kept) a).2):e∈kept∨(e=a∧¬kM a):=by
 by_cases hk:(seenStep quiet (q,kept) a).2=kept
 ·rw[hk] at h
  exact .inl h
 have hd:¬kM a:=fun z=>hk (z quiet q kept)
 simp only[seenStep] at h
 split at h
 ·exact .inl h
 ·split at h
  ·exact .inl h
  ·rcases Array.mem_push.1 h with h|h
   ·exact .inl h
   ·exact .inr ⟨h,hd⟩
theorem Aa(quiet:FuncId→Bool):∀(l:List Event)(x:Bool×Array Event)(e:Event),e∈(l.foldl (seenStep quiet) x).2→e∈x.2∨¬kM e:=by
 intro l
 induction l with
 |nil=>exact fun _ _ h=>.inl h
 |cons a l ih=>
  intro x e h;rcases ih _ _ h with h|h
  ·rcases D1 quiet x.1 x.2 a e h with h|⟨rfl,h⟩
   ·exact .inl h
   ·exact .inr h
  ·exact .inr h
theorem yP{P:Program}{fn:FuncId}{a:Act}{o:Oper}{w:World}{e:Event}(h:e∈listed P fn a o w):e∈(execOp a.eval o).events P w #[]∧¬kM e:=by
 refine⟨Go.Conc.mem_listed h,?_⟩;unfold listed at h;rw[seen_def] at h;rcases Aa _ _ (_,#[]) e h with h|h
 ·simp at h
 ·exact h
theorem EB(f:FuncId):kM ⟨.mark (.extern f),false,true⟩:=fun _ _ _=>rfl
theorem aC.Zk{P:Program}{main:Bool}{D:World→World→Array Event→Prop}{Ψ:Goroutine→World→Prop}{b:Frame}{a:Act}{k:List Item}{cs:List Frame}{w:World}(F:aC P main D Ψ){ops:Array Oper}{i:Nat}{rest:List Nat}{o:Oper}(ho:ops[i]? =some o)(hw:Region.wanted o (yielded ops a.tmps)=true)(hk:b.kind≠.early)(h:∀d,∀K:Act→World→Prop,(∀a' w' (S:Array Event),(∀e∈raw P a o (w.at d),e∈S∨kM e)→D (w.at d) (w'.at d) S∧Ψ (G (b.at a' (.inRegion ops rest::k)) cs) w'→K a' (w'.at d))→uponK o a K ((execOp a.eval o).run P (w.at d))):
 Ψ (G (b.at a (.inRegion ops (i::rest)::k)) cs) w:=
 F.step _ _ rfl fun d=>by
  have h':=h d (fun a' W=>∃S:Array Event,(∀e∈raw P a o (w.at d),e∈S∨kM e)∧D (w.at d) W S∧Ψ (G (b.at a' (.inRegion ops rest::k)) cs) W) fun a' w' S hs x=>⟨S,hs,x.1,F.at' _ _ _ x.2⟩
  have Ef:∀S:Array Event,(∀e∈raw P a o (w.at d),e∈S∨kM e)→∀e∈listed P b.fn a o (w.at d),e∈S:=fun S hS e he=>by
   obtain⟨z1,z2⟩:=yP he;exact(hS e z1).resolve_right z2
  cases hr:(execOp a.eval o).run P (w.at d) with
  |halt _ _=>rw[hr] at h';exact h'.elim
  |ok x w1=>
   rw[hr] at h';cases x
   case value v=>
    obtain⟨S,s1,s2,s3⟩:=h';refine⟨_,_,_,stepG_value ho hw hk hr,F.less _ _ _ _ s2 (Ef S s1),s3,fun z v hz hR=>?_⟩;obtain⟨h1,h2⟩:=tu v hr (fun e he=>(s1 e he).elim (hz _ _ _ s2 e) fun y=>y.loc z) hR;rw[stepG_value ho hw hk h1];unfold listed;unfold raw at h2;rw[h2]
   case skip=>
    obtain⟨S,s1,s2,s3⟩:=h';refine⟨_,_,_,stepG_none ho hw hk hr,F.less _ _ _ _ s2 (Ef S s1),s3,fun z v hz hR=>?_⟩;obtain⟨h1,h2⟩:=tu v hr (fun e he=>(s1 e he).elim (hz _ _ _ s2 e) fun y=>y.loc z) hR;rw[stepG_none ho hw hk h1];unfold listed;unfold raw at h2;rw[h2]
   all_goals exact h'.elim
end
section
open Go.Conc Go.RowKit
def ju(f:FuncId)(cap:Array Value):Deferred:={target:=.fn (.func f) cap,args:=#[]}
section
variable{P:Program}{main:Bool}{D:World→World→Array Event→Prop}{Ψ:Goroutine→World→Prop}{b:Frame}{a:Act}{k:List Item}{cs:List Frame}{w:World}{ops:Array Oper}{i:Nat}{rest:List Nat}{o:Oper}{f:FuncId}{fn:Func}{cap:Array Value}{todo:List Item}{ds:List Deferred}
theorem wo(ho:ops[i]? =some o)(hw:Region.wanted o (yielded ops a.tmps)=true)(hk:b.kind≠.early)(ny:b.roundOf=none){r:Operand}{ats:Array TypeId}(aQ:o.op=.defer {callee:=.value r,args:=#[],argTypes:=ats})(hr:a.eval r=.func (.func f) #[] cap):
 stepG P main (G (b.at a (.inRegion ops (i::rest)::k)) cs) w=.go (G (b.at (Act.put ⟨a.tmps,ju f cap::a.defers⟩ o.dst undef) (.inRegion ops rest::k)) cs) w #[]:=by
 have h1:(execOp a.eval o).run P w=.ok (.defer (ju f cap)) w:=by
  unfold execOp;simp[aQ,resolve,Deferred.ofValue,hr,ju]
 have he:(execOp a.eval o).events P w #[]=#[]:=by
  unfold execOp;simp[aQ,resolve,Deferred.ofValue,hr]
 have cL:(b.at ⟨a.tmps,ju f cap::a.defers⟩ (.inRegion ops (i::rest)::k)).finish undef=b.at (Act.put ⟨a.tmps,ju f cap::a.defers⟩ o.dst undef) (.inRegion ops rest::k):=by rw[Frame.finish_at,ho];rfl
 have gB:(b.kind==CallKind.early)=false:=by simpa using hk
 rw[stepG_oper ho hw,←cL];simp[stepG.apply,h1,he,G,Frame.at,gB,GStep.after,seen_none]
theorem aC.HU(F:aC P main D Ψ)(ho:ops[i]? =some o)(hw:Region.wanted o (yielded ops a.tmps)=true)(hk:b.kind≠.early)(ny:b.roundOf=none){r:Operand}{ats:Array TypeId}(aQ:o.op=.defer {callee:=.value r,args:=#[],argTypes:=ats})(hr:a.eval r=.func (.func f) #[] cap)(h:Ψ (G (b.at (Act.put ⟨a.tmps,ju f cap::a.defers⟩ o.dst undef) (.inRegion ops rest::k)) cs) w):Ψ (G (b.at a (.inRegion ops (i::rest)::k)) cs) w:=
 F.ctl (fun _=>wo ho hw hk ny aQ hr) h
theorem nH{c:Code}(hd:a.defers=ju f cap::ds)(hf:P.funcs[f]? =some fn)(gA:(fn.name== "runtime.NumGoroutine")=false)(hb:fn.body=some c):
 stepG P main (G {b.at a todo with mode:=.returning} cs) w=
  .go (G ((baseD f).at {tmps:=cap++Array.replicate (fn.ntmps-cap.size) undef,defers:=[]} [.code c]) ({b.at ⟨a.tmps,ds⟩ todo with mode:=.returning}::cs)) w #[]:=by
 have h1:¬fn.name= "runtime.NumGoroutine" :=by simpa using gA
 rw[←enter_atD cap hf hb];simp[G,stepG,unwind,callDeferred,Frame.at,hd,ju,invoke,callFunc,hf,h1,hb,GStep.after,seen_none]
theorem aC.I7(F:aC P main D Ψ){c:Code}(hd:a.defers=ju f cap::ds)(hf:P.funcs[f]? =some fn)(gA:(fn.name== "runtime.NumGoroutine")=false)(hb:fn.body=some c)(h:Ψ (G ((baseD f).at {tmps:=cap++Array.replicate (fn.ntmps-cap.size) undef,defers:=[]} [.code c]) ({b.at ⟨a.tmps,ds⟩ todo with mode:=.returning}::cs)) w):Ψ (G {b.at a todo with mode:=.returning} cs) w:=
 F.ctl (fun _=>nH hd hf gA hb) h
theorem jW(ho:ops[i]? =some o)(hw:Region.wanted o (yielded ops a.tmps)=true)(hk:b.kind=.deferred)(ny:b.roundOf=none){ats:Array TypeId}(aQ:o.op=.call {callee:=.builtin .recover,args:=#[],argTypes:=ats}){c:Frame}(hc:c.mode=.returning):
 stepG P main (G (b.at a (.inRegion ops (i::rest)::k)) (c::cs)) w=.go (G (b.at (a.put o.dst .nilIface) (.inRegion ops rest::k)) (c::cs)) w #[]:=by
 have h1:(execOp a.eval o).run P w=.ok .recover w:=by
  unfold execOp;simp[aQ,resolve,invoke,builtin]
 have he:(execOp a.eval o).events P w #[]=#[]:=by
  unfold execOp;simp[aQ,resolve,invoke,builtin]
 have cL:(b.at a (.inRegion ops (i::rest)::k)).finish .nilIface=b.at (a.put o.dst .nilIface) (.inRegion ops rest::k):=by rw[Frame.finish_at,ho];rfl
 rw[stepG_oper ho hw,←cL];simp[stepG.apply,h1,he,G,Frame.at,hk,ny,GStep.after,seen_none,tryRecover,hc]
theorem aC.Ag(F:aC P main D Ψ)(ho:ops[i]? =some o)(hw:Region.wanted o (yielded ops a.tmps)=true)(hk:b.kind=.deferred)(ny:b.roundOf=none){ats:Array TypeId}(aQ:o.op=.call {callee:=.builtin .recover,args:=#[],argTypes:=ats}){c:Frame}(hc:c.mode=.returning)(h:Ψ (G (b.at (a.put o.dst .nilIface) (.inRegion ops rest::k)) (c::cs)) w):Ψ (G (b.at a (.inRegion ops (i::rest)::k)) (c::cs)) w:=
 F.ctl (fun _=>jW ho hw hk ny aQ hc) h
theorem aC.leaveD(F:aC P main D Ψ){c:Frame}{v:Value}(hn:b.kind=.deferred)(hd:a.defers=[])(hf:P.funcs[b.fn]? =some fn)(hr:ResultsC P fn a.tmps v)(hc:c.mode=.returning)(h:Ψ (G c cs) w):Ψ (G {b.at a todo with mode:=.returning} (c::cs)) w:=
 F.ctl (fun w=>stepG_leave_deferred hn hd hf (hr w).1 (hr w).2 hc) h
end
end
section
open Go.Conc Go.RowKit
abbrev nW(v:Value):List PanicEntry:=[{v,recovered:=false}]
abbrev qJ(v:Value):List PanicEntry:=[{v,recovered:=true}]
section
variable{P:Program}{main:Bool}{D:World→World→Array Event→Prop}{Ψ:Goroutine→World→Prop}{b:Frame}{a:Act}{k:List Item}{cs:List Frame}{w:World}{ops:Array Oper}{i:Nat}{rest:List Nat}{o:Oper}{f:FuncId}{fn:Func}{cap:Array Value}{todo:List Item}{ds:List Deferred}{v:Value}
theorem yq(ho:ops[i]? =some o)(hw:Region.wanted o (yielded ops a.tmps)=true)(hm:b.mode=.run){r:Operand}(aQ:o.op=.panic r){t:TypeId}{x:Value}(hr:a.eval r=.iface t x):
 stepG P main (G (b.at a (.inRegion ops (i::rest)::k)) cs) w=.go (G {b.at a (.inRegion ops (i::rest)::k) with mode:=.panicking (nW (.iface t x))} cs) w #[]:=by
 have h1:(execOp a.eval o).run P w=.halt (.panic (.iface t x)) w:=by
  unfold execOp;simp[aQ,hr,Instr.panic,goPanic]
 have he:(execOp a.eval o).events P w #[]=#[]:=by
  unfold execOp;simp[aQ,hr,Instr.panic,goPanic]
 rw[stepG_oper ho hw];simp[stepG.apply,h1,he,G,Frame.at,Frame.raise,GStep.after,seen_none,hm]
theorem aC.panic(F:aC P main D Ψ)(ho:ops[i]? =some o)(hw:Region.wanted o (yielded ops a.tmps)=true)(hm:b.mode=.run){r:Operand}(aQ:o.op=.panic r){t:TypeId}{x:Value}(hr:a.eval r=.iface t x)(h:Ψ (G {b.at a (.inRegion ops (i::rest)::k) with mode:=.panicking (nW (.iface t x))} cs) w):Ψ (G (b.at a (.inRegion ops (i::rest)::k)) cs) w:=
 F.ctl (fun _=>yq ho hw hm aQ hr) h
theorem sQ{c:Frame}{ch:List PanicEntry}(hd:a.defers=[])(hf:P.funcs[b.fn]? =some fn):stepG P main (G {b.at a todo with mode:=.panicking ch} (c::cs)) w=.go (G (c.raise ch) cs) w #[]:=by
 simp[G,stepG,unwind,Frame.at,hd,Frame.catches,hf]
theorem aC.yL(F:aC P main D Ψ){c:Frame}{ch:List PanicEntry}(hd:a.defers=[])(hf:P.funcs[b.fn]? =some fn)(h:Ψ (G (c.raise ch) cs) w):Ψ (G {b.at a todo with mode:=.panicking ch} (c::cs)) w:=
 F.ctl (fun _=>sQ hd hf) h
theorem uF{c:Code}{ch:List PanicEntry}(hd:a.defers=ju f cap::ds)(hf:P.funcs[f]? =some fn)(gA:(fn.name== "runtime.NumGoroutine")=false)(hb:fn.body=some c):
 stepG P main (G {b.at a todo with mode:=.panicking ch} cs) w=
  .go (G ((baseD f).at {tmps:=cap++Array.replicate (fn.ntmps-cap.size) undef,defers:=[]} [.code c]) ({b.at ⟨a.tmps,ds⟩ todo with mode:=.panicking ch}::cs)) w #[]:=by
 have h1:¬fn.name= "runtime.NumGoroutine" :=by simpa using gA
 rw[←enter_atD cap hf hb];simp[G,stepG,unwind,callDeferred,Frame.at,hd,ju,invoke,callFunc,hf,h1,hb,GStep.after,seen_none]
theorem aC.I6(F:aC P main D Ψ){c:Code}{ch:List PanicEntry}(hd:a.defers=ju f cap::ds)(hf:P.funcs[f]? =some fn)(gA:(fn.name== "runtime.NumGoroutine")=false)(hb:fn.body=some c)(h:Ψ (G ((baseD f).at {tmps:=cap++Array.replicate (fn.ntmps-cap.size) undef,defers:=[]} [.code c]) ({b.at ⟨a.tmps,ds⟩ todo with mode:=.panicking ch}::cs)) w):Ψ (G {b.at a todo with mode:=.panicking ch} cs) w:=
 F.ctl (fun _=>uF hd hf gA hb) h
theorem uG(ho:ops[i]? =some o)(hw:Region.wanted o (yielded ops a.tmps)=true)(hk:b.kind=.deferred)(ny:b.roundOf=none){ats:Array TypeId}(aQ:o.op=.call {callee:=.builtin .recover,args:=#[],argTypes:=ats}){c:Frame}(hc:c.mode=.panicking (nW v)):
 stepG P main (G (b.at a (.inRegion ops (i::rest)::k)) (c::cs)) w=.go (G (b.at (a.put o.dst v) (.inRegion ops rest::k)) ({c with mode:=.panicking (qJ v)}::cs)) w #[]:=by
 have h1:(execOp a.eval o).run P w=.ok .recover w:=by
  unfold execOp;simp[aQ,resolve,invoke,builtin]
 have he:(execOp a.eval o).events P w #[]=#[]:=by
  unfold execOp;simp[aQ,resolve,invoke,builtin]
 have cL:(b.at a (.inRegion ops (i::rest)::k)).finish v=b.at (a.put o.dst v) (.inRegion ops rest::k):=by rw[Frame.finish_at,ho];rfl
 rw[stepG_oper ho hw,←cL];simp[stepG.apply,h1,he,G,Frame.at,hk,ny,GStep.after,seen_none,tryRecover,hc]
theorem aC.recover(F:aC P main D Ψ)(ho:ops[i]? =some o)(hw:Region.wanted o (yielded ops a.tmps)=true)(hk:b.kind=.deferred)(ny:b.roundOf=none){ats:Array TypeId}(aQ:o.op=.call {callee:=.builtin .recover,args:=#[],argTypes:=ats}){c:Frame}(hc:c.mode=.panicking (nW v))(h:Ψ (G (b.at (a.put o.dst v) (.inRegion ops rest::k)) ({c with mode:=.panicking (qJ v)}::cs)) w):Ψ (G (b.at a (.inRegion ops (i::rest)::k)) (c::cs)) w:=
 F.ctl (fun _=>uG ho hw hk ny aQ hc) h
theorem wm{c:Frame}{r:Value}(hn:b.kind=.deferred)(hd:a.defers=[])(hf:P.funcs[b.fn]? =some fn)(hr:∀w,(results fn a.tmps).run P w=.ok r w)(he:∀w,(results fn a.tmps).events P w #[]=#[])(hc:c.mode=.panicking (qJ v)):
 stepG P main (G {b.at a todo with mode:=.returning} (c::cs)) w=.go (G {c with mode:=.returning} cs) w #[]:=by
 simp[G,stepG,unwind,doReturn,Frame.at,hd,hf,hr w,he w,hn,hc,GStep.after,seen_none]
theorem aC.ND(F:aC P main D Ψ){c:Frame}{r:Value}(hn:b.kind=.deferred)(hd:a.defers=[])(hf:P.funcs[b.fn]? =some fn)(hr:ResultsC P fn a.tmps r)(hc:c.mode=.panicking (qJ v))(h:Ψ (G {c with mode:=.returning} cs) w):Ψ (G {b.at a todo with mode:=.returning} (c::cs)) w:=
 F.ctl (fun _=>wm hn hd hf (fun w=>(hr w).1) (fun w=>(hr w).2) hc) h
end
end
end Go.Proofs.YtobagnjnbmgidaaGreatDoor
