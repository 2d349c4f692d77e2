import Derived.Conc.LeavingOf
import Derived.RunNT
import Derived.Test.YtobagnjnbmgidabGreatDoorQ0
set_option linter.all false
namespace Go.Proofs.YtobagnjnbmgidabGreatDoor
open Go.Conc Go.RowKit
open Go.ConcN (sumTo upd sumTo_upd upd_ne upd_same)
variable{z:Addr}{cl:Bool}{fn:Func}{V x:Nat}{v:ay}{y:aV}{r:aN}
variable{Post:qz}{Shun Still:dm}{B h n i dl B' j c L nb:Nat}{Mem U pH:p8}{E:Nat->Option Seat}{T u:Trace}{O:jH}{w w' wI:aj}{q Y:bU}{main:Bool}{Z:Event->Prop}{b:aC}{A:Act}{k:eC}{cs:cO}{I:g8}{rest cc ds:aN}{o:Oper}{Anchor Φ Q':kr}{D:yW}{st:oJ}{Ok Wy:dh}{St tW:Nat->Loc->Prop}{K':cK}{M M':Nat->Goroutine->Prop}{g':aV}
def Goal(P:aG)(Post:qz)(m:Machine)(T:Trace):Prop:=
 ∃N last o w' t',runNT P (N+1) m T=(.ended o w',t')/\runN P N m=.next last/\step P last=.ended o w'/\Conc.Good P Post last o w' t'
def Goal.back{P:aG}{N:Nat}{m a:Machine}{T b:Trace}(h:runNT P N m T=(.next a,b))(g:Goal P Post a b):Goal P Post m T:=by
 let⟨M,last,o,w',b,i,f,e,d⟩:=g;have c:runN P N m=.next a:=by rw[<-runNT_fst P N m T,h]
 exact⟨N+M,last,o,w',b,by rw[Nat.add_assoc,runNT_add,h];exact i,by rw[runN_add,c];exact f,e,d⟩
section
variable{P:aG}{K:cK}{a g:aV}
def At(P:aG)(Post:qz)(K:cK)(Shun Still:dm)(Mem:p8)(E:Nat->Option Seat)(h n:Nat)(g:aV)(w:aj):Prop:=
 ∀(d:Nat)(O:jH)(T:Trace)(q:bU)(sl:qT),O.size=n->O[h]? =some g->R2 P K Shun Still w.heap.size Mem E h T O (w.at d) q->Goal P Post (crowd O (w.at d) sl) T
def GW(c:∀w d,K w->K (w.at d))(p:∀w w' es,D w w' es->DR K Shun Still h w w' es)(i:∀w d,D w (w.at d) #[])(f:∀w w' es a,D w w' es->(∀e∈a,e∈es)->D w w' a)(b:Mem h):aB P (h==0) D (At P Post K Shun Still Mem E h n):=by
 have a:∀g w d,At P Post K Shun Still Mem E h n g w->At P Post K Shun Still Mem E h n g (w.at d):=λg w d x j=>x j;refine⟨a,i,f,λg w l e=>?_⟩;intro d O T q k m o C;have W:Walk P (h==0) D (At P Post K Shun Still Mem E h n) g w:=(xh i f _).step g w l λd=>(e d).mono λ_ _ x=>.stop λj=>a _ _ _ x;let⟨N,e,_,w',a,s,g,r,n,l,j,h,t⟩:=hold c p (.inl b) ((xh i f _).at' _ _ d W) O T q k o C;exact Goal.back r (j w'.drawn e s g a (n.trans m) l h)
def Zc{b:dm}{s:Seat}(c:∀l,Still l->b l){g:aV}(x:Sits P main K Still B s n g):Sits P main K b B s n g:=by
 have ev:∀e,EvC Still B e->EvC b B e:=λe ⟨a,h,f,d⟩=>⟨a,h,c _ f,d⟩
 have at':∀g a,AtIn P main K Still B s g a->AtIn P main K b B s g a:=λg a ⟨j,i,h,g,d,es,c,b⟩=>⟨j,i,h,g,d,es,λe d=>ev e (c e d),b⟩
 rcases x with ⟨k,w,e,g⟩|⟨e,b,a,f,c⟩
 .exact .inl ⟨k,w,e,lR (λ_ _ _ ⟨d1,d2⟩=>⟨d1,λe d=>ev e (d2 e d)⟩) (λ_ _ ⟨a,y⟩=>⟨a,at' _ _ y⟩) g⟩
 .exact .inr ⟨e,b,a,f,at' _ _ c⟩
def Sf(B:Nat)(l:Loc):Prop:=∃a:Addr,l=.cell a/\B<=a.block
def uu{t:Trace}{x:Touch}(h:∀op∈t,op.act.low B)(f:touchAt t i=some x)(i:Sf B x.loc):False:=by
 let⟨op,c,a⟩:=touch_of f;have d:=h op (DZ c);let⟨_,b,c⟩:=i;let⟨g,fn,c,act⟩:=op;cases act with
 |access e=>
  let⟨loc,wr,c⟩:=e;simp only[MemAct.touch?]at a;simp only[MemAct.low]at d;have c:x.loc=loc:=by
   grind
  rw[c]at b;subst b;simp only[Loc.low]at d;omega
 |mark m=>
  cases m<;>simp only[MemAct.touch?,reduceCtorEq,Option.some.injEq]at a
  all_goals
   subst a;simp only[MemAct.low]at d;simp only[Loc.cell.injEq]at b;subst b;omega
 |_=>simp[MemAct.touch?]at a
end
section
variable{P:aG}{K:cK}{a g:aV}
def R2.grow{c a:dm}(C:R2 P K Shun Still B Mem E h T O w q)(k:∀l,Still l->a l)(u:∀l,a l->Still l\/Sf B l)(t:∀l,Shun l->c l)(r:∀l,c l->Shun l\/Sf B l):R2 P K c a B Mem E h T O w q:=by
 have f:=C.past.seen;refine⟨λi g a j=>?_,C.chans,C.wf,C.live,C.inj,C.above,C.mem,C.nomem,C.lo,⟨C.past.clean,λi x d m=>?_,λi x d o p g j=>?_,C.past.hears,f⟩,C.keep⟩
 .have:=C.idle i g a j;cases e:E i with
  |none=>rw[e]at this;exact this
  |some s=>rw[e]at this;exact Zc k this
 .refine(C.past.known i x d m).imp (fun⟨c,a,e⟩=>⟨c,a.imp id fun⟨b,n,m,l,h⟩=>⟨b,n,m,t _ l,h⟩,λb h b=>?_⟩) fun⟨c,a,e⟩=>⟨c,k _ a,e⟩
  rcases r _ b with z|z
  .simp_all
  .exact(uu f h z).elim
 .rcases u _ p with z|z
  .exact C.past.wrote i x d o z g j
  .exact(uu f d z).elim
def Ci(C:yG P K Shun B Mem T O w q)(l:Deaf T 0=0):Past Shun B T:=by
 have k:∀i x,touchAt T i=some x->x.loc.isMemory=true->Acc Shun 0 T i:=λi x a d=>(C.past.known i x a d).elim id λz=>z.2.1.elim;refine⟨C.past.clean,λi x a d=>?_,λi g m g n=>?_,l,C.past.seen⟩
 .refine(k i x a d).2.1.imp id fun⟨b,f,g,l,_⟩=>?_;simp_all
 .let⟨x,a,d,l⟩:=n;rcases(k i x a d).2.1 with ⟨j,z,h,c,e⟩|⟨b,f,g,_,d⟩
  .rcases e with rfl|e
   .rw[g?_of h,c]at m;simp_all
   .exact⟨j,by rw[g?_of h,c],e⟩
  .have:b=x:=by rw[show touchAt T i=some x from a]at f;simp_all
   simp_all
def vp(C:yG P K Shun B Mem T O w q):Leavers P T O q:=⟨λi g a a=>(show 0<i/\QuitsD P (q i) (Deaf T i) g from C.idle i g (λz=>ω) a).2,C.above⟩
def At.ends{es:dS}(h:a.status=.running)(c:Mem 0)(b:∀d,stepG P true a (w.at d)=.ended (.done v) (w.at d) es)(f:∀e∈es,EvL Shun w.heap.size e)(i:∀d,Post v (w.at d)):At P Post K Shun (λ_=>False) Mem (λ_=>none) 0 n a w:=by
 intro d O T q a a a C;exact beside_ends (D:=λ_ _ es=>es=#[]) (Shun:=Shun) (B:=w.heap.size) (n:=0) (q:=q) (λ_ _ es d=>ξ) a (vp C) (Ci C (C.past.hears 0 c)) (λa ⟨g,e⟩=>by subst e;exact⟨h,v,es,b g,f,i g⟩)
def Zf(k:K w)(h:∀x,Mem x->x=0)(l:At P Post K Shun (λ_=>False) Mem (λ_=>none) 0 1 a w):Goal P Post (solo a w) #[]:=by
 have e:solo a w=crowd #[a] w none:=rfl;rw[e];refine l w.drawn #[a] #[] (λ_=>0) none rfl rfl ⟨λi g f a=>?_,λi s c _ e=>(by cases e),λi s e=>(by cases e),λ_ _ z=>z.elim,λi a s a c e=>(by cases e),λj a=>?_,λi s e=>(by cases e),λi f=>.inr (h i f),λi s _ e=>(by cases e),⟨λsaid ⟨i,j,x⟩=>?_,λi x b=>?_,λi x b=>?_,λg _=>rfl,λop d=>by simp at d⟩,k⟩
 .simp_all
 .rfl
 .let⟨_,⟨x,y,b,_⟩,_⟩:=x;simp[Trace.act?]at b
 .simp[touchAt,Trace.act?]at b
 simp
end
section
variable{P:aG}{K:cK}{a g:aV}
def At.keep(f:∀d,K' (w.at d))(c:At P Post K' Shun (λ_=>False) Mem (λ_=>none) 0 n a w):At P Post K Shun (λ_=>False) Mem (λ_=>none) 0 n a w:=
 λd O T q b a e C=>c d O T q b a e (uP C (f d))
def iR{a:Addr}(h:c≠a.block)(V:Nat)(buf:gd)(cl:Bool)(x y:Nat)(b:Bool):(w.setChan c V buf cl x y b).cell? a=w.cell? a/\(w.setChan c V buf cl x y b).frozen? a=w.frozen? a:=by
 have e:=heap_setChan_ne w V buf cl x y b h;constructor
 .unfold World.cell?;rw[e]
 .unfold World.frozen?;rw[e]
def Gy(f:∀a,Still (.cell a)->¬Ok a true)(f:∀a wr,Shun (.cell a)->¬Ok a wr)(f:∀w w' es,DX Ok w w' es->K w->K w')(w w':aj)(es:dS)(D:DX Ok w w' es):DR K Shun Still h w w' es:=by
 refine⟨f _ _ _ D,λc V k f=>by rw[f];exact D.obj c _ f (λ_ _ _ z=>by cases z),D.size,λe c=>?_⟩;rcases D.ev e c with ⟨a,g,_,c,i⟩|rfl
 .let⟨loc,wr,d⟩:=e;simp only at g;subst g;refine⟨⟨λx b=>?_,i⟩,ψ,ψ⟩;have c:(⟨.cell a,wr,if d then .atomic else .plain⟩:Touch)=x:=by
   cases d<;>simpa [MemAct.ofEvent,MemAct.touch?]using b
  grind
 .refine⟨⟨λx b=>?_,?_⟩,by simp[noRoomEvent],by simp[noRoomEvent]⟩
  .simp[noRoomEvent,MemAct.ofEvent,MemAct.touch?]at b
  .simp[noRoomEvent,MemAct.ofEvent,MemAct.low]
end
structure QF(P:aG)(main:Bool)(K:cK)(Z:Event->Prop)(R:kr):Prop where
 step:∀g g',g.status=.running->(∀w,K w->∃es,stepG P main g w=.go g' w es/\∀e∈es,Z e)->R g'->R g
section
variable{P:aG}{K:cK}{R:kr}{a:Act}
def QF.ctl(F:QF P main K Z R){c a:aC}{b:cO}(h:∀w,stepG P main (G c cs) w=.go (G a b) w #[])(d:R (G a b)):R (G c cs):=
 F.step _ _ rfl (λw _=>⟨#[],h w,λe f=>by simp at f⟩) d
def QF.op(F:QF P main K Z R)(j:I[i]? =some o)(g:Region.wanted o (yielded I a.tmps)=true)(n:b.kind≠.early)(p:∀w,K w->∀e∈(execOp a.eval o).events P w #[],Z e)(h:∀w,K w->uponK o a (λf w'=>w'=w/\f=A) ((execOp a.eval o).run P w))(l:R (G (b.at A (.inRegion I rest::k)) cs)):R (G (b.at a (.inRegion I (i::rest)::k)) cs):=by
 refine F.step _ _ rfl (λw d=>⟨listed P b.fn a o w,?_,λe m=>p w d e (Ly m)⟩) l;have:=goes_oper_k (P:=P) (main:=main) (k:=k) (cs:=cs) (rest:=rest) (K:=λg' w' es=>g'=G (b.at A (.inRegion I rest::k)) cs/\w'=w/\es=listed P b.fn a o w) j g n (λK' c=>uponK_mono (λf w' x=>by obtain⟨rfl,rfl⟩:=x;exact c _ _ ⟨rfl,rfl,rfl⟩) (h w d));revert this;cases stepG P main (G (b.at a (.inRegion I (i::rest)::k)) cs) w<;>intro this
 case go g' w' es=>simp_all
 all_goals exact this.elim
def QF.AZ(F:QF P main K Z R)(f:I[i]? =some o)(d:Region.wanted o (yielded I a.tmps)=true)(j:b.kind≠.early)(l:∀w,K w->(execOp a.eval o).events P w #[]=#[])(h:∀w,K w->uponK o a (λg w'=>w'=w/\g=A) ((execOp a.eval o).run P w))(g:R (G (b.at A (.inRegion I rest::k)) cs)):R (G (b.at a (.inRegion I (i::rest)::k)) cs):=
 F.op f d j (λw a e c=>by rw[l w a]at c;simp at c) h g
def QF.unwanted(F:QF P main K Z R)(d:I[i]? =some o)(c:Region.wanted o (yielded I a.tmps)=false)(h:R (G (b.at (a.put o.dst undef) (.inRegion I rest::k)) cs)):R (G (b.at a (.inRegion I (i::rest)::k)) cs):=
 F.ctl (λ_=>stepG_unwanted d c) h
def QF.oq(F:QF P main K Z R)(d:I[i]? =some o)(c:Region.wanted o (yielded I a.tmps)=true)(f:late b=true)(g:∀w,K w->(execOp a.eval o).events P w #[]=#[])(h:∀w,K w->uponK o a (λe w'=>w'=w/\e=A) ((execOp a.eval o).run P w))(e:R (G (b.at A (.inRegion I rest::k)) cs)):R (G (b.at a (.inRegion I (i::rest)::k)) cs):=F.AZ d c (iP f) g h e
def QF.re(F:QF P main K Z R)(h:R (G (b.at a (k)) cs)):R (G (b.at a (.inRegion I []::k)) cs):=F.ctl (λ_=>stepG_region_end) h
def QF.sq(F:QF P main K Z R){x y:Code}(h:R (G (b.at a (.code x::.code y::k)) cs)):R (G (b.at a (.code (.seq x y)::k)) cs):=F.ctl (λ_=>stepG_seq) h
def QF.rr(F:QF P main K Z R){id:Nat}{l:List Oper}(h:R (G (b.at a (.inRegion l.toArray (rg l 0)::k)) cs)):R (G (b.at a (.code (.region id l.toArray false)::k)) cs):=F.ctl (λ_=>stepG_region) (by rw[xG];exact h)
def QF.sr(F:QF P main K Z R){id:Nat}{l:List Oper}{y:Code}(h:R (G (b.at a (.inRegion l.toArray (rg l 0)::.code y::k)) cs)):R (G (b.at a (.code (.seq (.region id l.toArray false) y)::k)) cs):=F.sq (F.rr h)
def QF.es(F:QF P main K Z R){x y:Code}(h:R (G (b.at a (.code x::.code y::k)) cs)):R (G (b.at a (.inRegion I []::.code (.seq x y)::k)) cs):=F.re (F.sq h)
def QF.er(F:QF P main K Z R){id:Nat}{l:List Oper}(h:R (G (b.at a (.inRegion l.toArray (rg l 0)::k)) cs)):R (G (b.at a (.inRegion I []::.code (.region id l.toArray false)::k)) cs):=F.re (F.rr h)
def QF.V8(F:QF P main K Z R){id:Nat}{l:List Oper}{y:Code}(h:R (G (b.at a (.inRegion l.toArray (rg l 0)::.code y::k)) cs)):R (G (b.at a (.inRegion I []::.code (.seq (.region id l.toArray false) y)::k)) cs):=F.re (F.sr h)
def QF.aJ(F:QF P main K Z R)(e:R (G (b.at A (.inRegion I rest::k)) cs))(d:I[i]? =some o:=by exact rfl)(c:Region.wanted o (yielded I a.tmps)=true:=by exact rfl)(f:late b=true:=by exact rfl)(g:∀w,K w->(execOp a.eval o).events P w #[]=#[]:=by simp[go_sem])(h:∀w,K w->uponK o a (λj w'=>w'=w/\j=A) ((execOp a.eval o).run P w):=by intro w c;go_simp;(try walk_nrm);first|exact⟨rfl,rfl⟩|exact rfl):R (G (b.at a (.inRegion I (i::rest)::k)) cs):=F.oq d c f g h e
def QF.dK(F:QF P main K Z R)(h:R (G (b.at A (.inRegion I rest::k)) cs))(d:I[i]? =some o:=by exact rfl)(c:Region.wanted o (yielded I a.tmps)=false:=by exact rfl)(e:a.put o.dst undef=A:=by walk_nrm;exact rfl):R (G (b.at a (.inRegion I (i::rest)::k)) cs):=F.unwanted d c (e▸h)
def QF.zA(F:QF P main K Z R){id:Nat}{l:List Oper}(h:R (G (b.at a (.inRegion l.toArray r::k)) cs))(c:rg l 0=r:=by simp only[rg,Nat.reduceAdd];exact rfl):R (G (b.at a (.code (.region id l.toArray false)::k)) cs):=F.rr (c▸h)
def QF.cF(F:QF P main K Z R){id:Nat}{l:List Oper}{y:Code}(h:R (G (b.at a (.inRegion l.toArray r::.code y::k)) cs))(c:rg l 0=r:=by simp only[rg,Nat.reduceAdd];exact rfl):R (G (b.at a (.code (.seq (.region id l.toArray false) y)::k)) cs):=F.sr (c▸h)
def QF.CZ(F:QF P main K Z R){id:Nat}{l:List Oper}(h:R (G (b.at a (.inRegion l.toArray r::k)) cs))(c:rg l 0=r:=by simp only[rg,Nat.reduceAdd];exact rfl):R (G (b.at a (.inRegion I []::.code (.region id l.toArray false)::k)) cs):=F.er (c▸h)
def QF.dA(F:QF P main K Z R){id:Nat}{l:List Oper}{y:Code}(h:R (G (b.at a (.inRegion l.toArray r::.code y::k)) cs))(c:rg l 0=r:=by simp only[rg,Nat.reduceAdd];exact rfl):R (G (b.at a (.inRegion I []::.code (.seq (.region id l.toArray false) y)::k)) cs):=F.V8 (c▸h)
def QF.cf(F:QF P main K Z R){c:Operand}{x y:Code}(e:a.eval c=.bool false)(h:R (G (b.at a (.code y::k)) cs)):R (G (b.at a (.code (.cond c x y)::k)) cs):=F.ctl (λ_=>stepG_cond (t:=false) e) h
def QF.ct(F:QF P main K Z R){c:Operand}{x y:Code}(e:a.eval c=.bool true)(h:R (G (b.at a (.code x::k)) cs)):R (G (b.at a (.code (.cond c x y)::k)) cs):=F.ctl (λ_=>stepG_cond (t:=true) e) h
def QF.sk(F:QF P main K Z R)(h:R (G (b.at a (k)) cs)):R (G (b.at a (.code .skip::k)) cs):=F.ctl (λ_=>stepG_skip) h
def QF.bl(F:QF P main K Z R){id:Nat}{c:Code}(h:R (G (b.at a (.code c::.inBlock id::k)) cs)):R (G (b.at a (.code (.block id c)::k)) cs):=F.ctl (λ_=>stepG_block) h
def QF.ib(F:QF P main K Z R){id:Nat}(h:R (G (b.at a (k)) cs)):R (G (b.at a (.inBlock id::k)) cs):=F.ctl (λ_=>stepG_inBlock) h
def QF.enter(F:QF P main K Z R){f:FuncId}{args:gd}(e:I[i]? =some o)(c:Region.wanted o (yielded I a.tmps)=true)(g:b.kind≠.early)(d:∀w,(execOp a.eval o).run P w=.ok (.enter f args) w)(j:∀w,(execOp a.eval o).events P w #[]=#[])(h:R (G (Frame.enter P f args .normal) (b.at a (.inRegion I (i::rest)::k)::cs))):R (G (b.at a (.inRegion I (i::rest)::k)) cs):=
 F.ctl (λw=>by rw[stepG_enter e c g (d w),listed_nil (j w)]) h
def QF.g9(F:QF P main K Z R){d:eC}{c:aC}(f:b.kind=.normal)(i:a.defers=[])(g:P.funcs[b.fn]? =some fn)(e:ResultsC P fn a.tmps v)(h:R (G (c.finish v) cs)):R (G {b.at a d with mode:=.returning} (c::cs)):=
 F.ctl (λw=>by rw[stepG_leave f i g (e _).1 (e _).2]) h
def QF.uO(F:QF P main K Z R){f:FuncId}{args:Array Operand}{d:Array TypeId}{A:gd}(e:P.funcs[f]? =some fn)(h:R (G (Frame.enter P f A .normal) (b.at a (.inRegion I (i::rest)::k)::cs)))(j:I[i]? =some o:=by exact rfl)(g:Region.wanted o (yielded I a.tmps)=true:=by exact rfl)(l:late b=true:=by exact rfl)(c:o.op=.call {callee:=.value (.func f),args,argTypes:=d}:=by exact rfl)(d:(fn.name== "runtime.NumGoroutine")=false:=by exact rfl)(f:fn.body.isNone=false:=by exact rfl)(m:args.map a.eval=A:=by walk_nrm;exact rfl):R (G (b.at a (.inRegion I (i::rest)::k)) cs):=
 F.enter j g (iP l) (λ_=>m▸run_call_body c e d f) (λ_=>events_call_body c e d f _) h
def QF.tC(F:QF P main K Z R){t:Tmp}{c:aC}(f:P.funcs[b.fn]? =some fn)(h:R (G (c.finish (a.tmps.getD t undef)) cs))(e:b.kind=.normal:=by exact rfl)(g:a.defers=[]:=by exact rfl)(d:fn.results=#[.tmp t]:=by exact rfl):R (G (b.at a (.inRegion I []::.code .ret::k)) (c::cs)):=F.re (F.ctl (λ_=>stepG_ret') (F.g9 e g f (resultsC_tmp d _) h))
def QF.Du(F:QF P main K Z R){c:aC}(f:P.funcs[b.fn]? =some fn)(h:R (G (c.finish (.tuple #[])) cs))(e:b.kind=.normal:=by exact rfl)(g:a.defers=[]:=by exact rfl)(d:fn.results=#[]:=by exact rfl):R (G (b.at a [.inRegion I []]) (c::cs)):=F.re (F.ctl (λ_=>stepG_end) (F.g9 e g f (resultsC_none d _) h))
end
section
variable{P:aG}{K:cK}{J:qt}
def nX(d:Nat):QF P false (λ_=>True) (λ_=>False) (λg=>∃n,QuitsD P n d g):=
 ⟨λg g' b h ⟨n,c⟩=>⟨n+1,.inr ⟨b,g',#[],λe a=>by simp at a,λw=>by let⟨es,d,b⟩:=h w trivial;rw[d,TU.2 λe a=>b e a],c⟩⟩⟩
def qE(main:Bool)(s:Seat)(w:aj):QF P main K (EvC Still B) (λg=>∃n,Goes P main (RK K) (DS Still B) (λg _=>∃a,AtIn P main K Still B s g a) n g w):=
 ⟨λg g' a h ⟨n,c⟩=>⟨n+1,.inr ⟨a,λa b=>by let⟨es,e,d⟩:=h a b;rw[e];exact⟨⟨rfl,d⟩,Goes.rely (λ_ _ _ _ x=>x) c b⟩⟩⟩⟩
end
def KL(l:oJ)(cc:aN)(w:aj):Prop:=(∀p∈l,w.cell? p.1=some p.2)/\∀c∈cc,∃k,w.heap[c]? =some (.chan 0 #[] false k k false)
def wD(l:oJ)(x:Loc):Prop:=∃p∈l,x=.cell p.1
section
variable{l:oJ}{es:dS}
def KA(b:∀p∈l,¬Ok p.1 true):∀w w' es,DX Ok w w' es->KL l cc w->KL l cc w':=λw w' es D h=>
 ⟨λp a=>by rw[(D.cell p.1 (b p a) (au (h.1 p a))).1];exact h.1 p a,λc b=>by let⟨k,a⟩:=h.2 c b;exact⟨k,D.obj c _ a (λ_ _ _ z=>by cases z)⟩⟩
def IL{k:Nat}(a:∀p∈l,c≠p.1.block)(g:c∈cc)(h:KL l cc w):KL l cc (w.setChan c 0 #[] false k k false):=by
 refine⟨λp d=>by rw[(iR (a p d) ..).1];exact h.1 p d,λf b=>?_⟩;by_cases e:c=f
 .subst e;let⟨d,a⟩:=h.2 c g;exact⟨k,heap_setChan_self w a _ _ _ _ _ _⟩
 .let⟨d,a⟩:=h.2 f b;exact⟨d,by rw[heap_setChan_ne w _ _ _ _ _ _ e];exact a⟩
def FI{b:oJ}{a:aN}(e:∀p∈b,p∈l)(d:∀c∈a,c∈cc)(h:KL l cc w):KL b a w:=⟨λp a=>h.1 p (e p a),λc a=>h.2 c (d c a)⟩
def vT{a:Addr}(c:w.cell? a=some v)(h:KL l cc w):KL ((a,v)::l) cc w:=⟨λp b=>by rcases ak.1 b with rfl|b;exact c;exact h.1 p b,h.2⟩
def vm{x:Loc}(h:wD l x):x.isMemory=true:=by obtain⟨p,_,rfl⟩:=h;rfl
end
section
variable{P:aG}{R:gi}{K:cK}
abbrev CF(P:aG)(main:Bool)(Φ:kr):Prop:=QF P main (λ_=>True) (λ_=>False) Φ
def pE(F:aB P main D R)(w:aj):CF P main (λg=>R g w):=
 ⟨λg g' a h b=>F.step g w a λd=>by
  have e:∀w,stepG P main g w=.go g' w #[]:=λw=>by
   let⟨es,a,c⟩:=h w trivial;rw[a,TU.2 λe a=>c e a]
  exact⟨_,_,_,e _,F.idle _ _,F.at' _ _ _ b,λ_ _ _ _=>e _⟩⟩
def aao(F:QF P main K Z Φ):CF P main Φ:=⟨λg g' a h b=>F.step g g' a (λw _=>by let⟨es,_,a⟩:=h w trivial;simp_all) b⟩
end
section
variable{P:aG}{K:cK}{a g:aV}
def At.assume(a:∀w d,K w->K (w.at d))(H:K w->At P Post K Shun Still Mem E h n g w):At P Post K Shun Still Mem E h n g w:=
 λd O T q b c e C=>H (show K w from a (w.at d) w.drawn C.keep) d O T q b c e C
abbrev nM(P:aG)(Post:qz)(K:cK)(Shun:dm)(n:Nat):Goroutine->World->Prop:=At P Post K Shun (λ_=>False) (λg=>g=0) (λ_=>none) 0 n
def At.Rv{es:dS}(g:a.status=.running)(c:∀d,stepG P true a (w.at d)=.ended (.done v) (w.at d) es)(f:∀e∈es,EvL Shun w.heap.size e)(e:∀d,K (w.at d)->Post v (w.at d))(b:∀w d,K w->K (w.at d)):nM P Post K Shun n a w:=
 At.assume b λa=>At.ends g rfl c f λd=>e d (b _ _ a)
end
def jq(l:aN)(x:Loc):Prop:=∃A∈l,x=.cell ⟨A,5,none⟩\/x=.cell ⟨A,6,none⟩
def Ey{l:aN}{A:Nat}{x:Loc}(h:jq l x):jq (A::l) x:=by let⟨B,a,e⟩:=h;exact⟨B,aP _ a,e⟩
def JE{l:aN}{A:Nat}{x:Loc}(h:jq (A::l) x):jq l x\/Sf A x:=by
 let⟨B,a,e⟩:=h;rcases ak.1 a with rfl|a
 .exact .inr (e.elim (λe=>⟨_,e,az _⟩) λe=>⟨_,e,az _⟩)
 .exact .inl ⟨B,a,e⟩
def cP(N0:Nat)(l:aN)(st:oJ)(a:Addr)(wr:Bool):Prop:=¬jq l (.cell a)/\(wr=true->N0<=a.block/\¬wD st (.cell a))
def Old(wI w:aj):Prop:=w.os=wI.os/\w.tape=wI.tape/\w.output=wI.output/\wI.heap.size<=w.heap.size/\∀k,k<wI.heap.size->w.heap[k]? =wI.heap[k]?
theorem Old.below(h:Old wI w):Below wI.heap.size wI w:=⟨h.1,h.2.1,h.2.2.1,h.2.2.2.1,h.2.2.2.2⟩
theorem Old.of(h:Below wI.heap.size wI w):Old wI w:=⟨h.os,h.tape,h.output,h.size,h.block⟩
theorem Old.cell{wI w:aj}(h:Old wI w)(a:Addr)(v:ay)(b:wI.cell? a=some v):w.cell? a=some v:=(h.below.cell (au b)).trans b
section
variable{P:aG}{l:aN}{es:dS}
theorem gN:∀w d,Old wI w->Old wI (w.at d):=λ_ _ h=>h
theorem Za(b:∀a,Ok a true->wI.heap.size<=a.block):∀w w' es,DX Ok w w' es->Old wI w->Old wI w':=λw w' es D h=>
 ⟨D.rest.1.trans h.1,D.rest.2.1.trans h.2.1,D.rest.2.2.trans h.2.2.1,aT h.2.2.2.1 D.size,λk b=>(D.blk k (ga b h.2.2.2.1) (λa a z=>χ)).trans (h.2.2.2.2 k b)⟩
theorem A5{a:Addr}(b:wI.heap.size<=a.block)(h:Old wI w):Old wI (w.setCell a v):=Old.of (Below.setCell h.below b v)
theorem Fh{buf:gd}{y:Nat}{a:Bool}(b:wI.heap.size<=c)(h:Old wI w):Old wI (w.setChan c V buf cl x y a):=
 ⟨h.1,h.2.1,h.2.2.1,by simp only[World.setChan,zb];exact h.2.2.2.1,λk a=>by
  rw[<-h.2.2.2.2 k a];simp only[World.setChan];grind⟩
theorem nA(n:Nat):aB P true (DX (cP wI.heap.size l [])) (nM P Post (Old wI) (jq l) n):=
 GW (h:=0) gN (Gy (λb z=>z.elim) (λb wr z o=>o.1 z) (Za λa o=>(o.2 rfl).1)) DX.idle yE rfl
end
structure P3(Shun:dm)(St:Nat->Loc->Prop)(U:p8)(B h:Nat)(t:Trace):Prop where
 clean:∀said,¬Race said t
 known:∀i a,touchAt t i=some a->a.loc.isMemory=true->Acc Shun h t i\/(a.write=false/\∃g,t.g? i=some g/\U g/\St g a.loc)
 wrote:∀i a,touchAt t i=some a->a.write=true->∀g,U g->St g a.loc->Knows t g i
 hears:∀g,U g->Deaf t g=0
 seen:∀op∈t,op.act.low B
def nG(St:Nat->Loc->Prop)(U:p8)(l:Loc):Prop:=∃g,U g/\St g l
section
variable{g:Nat}{t:Trace}
theorem P3.mono(H:P3 Shun St U B h t)(b:B<=B'):P3 Shun St U B' h t:=⟨H.clean,H.known,H.wrote,H.hears,λop a=>MemAct.low_mono b (H.seen op a)⟩
def nT{a b:Touch}(c:touchAt t i=some a)(c:touchAt t i=some b):b=a:=ξ
def fM{fn:FuncId}{a:String}{es:dS}:∀op∈MemOp.ofEvents g fn a es,op.g=g:=λop a=>by obtain⟨e,_,rfl⟩:=Go.Conc.mem_ofEvents a;rfl
theorem zH(H:P3 Shun St U B h t){fn:FuncId}{k:String}{es:dS}(r:∀e∈es,wE Shun (nG St U) B h e)(C:¬U h):P3 Shun St U B h (t++MemOp.ofEvents h fn k es):=by
 have u:∀op∈MemOp.ofEvents h fn k es,op.g=h:=fM;have m:∀op∈MemOp.ofEvents h fn k es,∀b,op.act.touch? =some b->(nG St U b.loc->b.write=false)/\(Shun b.loc->b.kind≠.plain/\(b.kind=.said->h=0)):=λop c b y=>by
  obtain⟨e,w,rfl⟩:=Go.Conc.mem_ofEvents c;exact(r e w).1 b y
 refine⟨λsaid=>noRace_append (H.clean said) u λi a o op c b y k=>?_,λi a o h=>?_,λi a o s g j v=>?_,λg j=>?_,λop c=>?_⟩
 .let⟨E,D,B,G⟩:=k;rcases H.known i a o D with ⟨_,q,_⟩|⟨s,g,_,j,v⟩
  .grind
  .rcases B with x|x
   .simp_all
   .have:=(m op c b y).1 ⟨g,j,E▸v⟩;simp_all
 .let⟨x,n,f⟩:=touch_of o;rcases getElem?_append_cases n with ⟨k,l⟩|⟨_,d⟩
  .rcases H.known i a (by rw[touchAt_of l];exact f) h with q|⟨p,g,j,b⟩
   .exact .inl (q.app _)
   .exact .inr ⟨p,g,by rw[g?_old k];exact j,b⟩
  .have q:=knows_own n;rw[u x d]at q;refine .inl ⟨lt_size_of_getElem? n,.inl q,λF b A=>?_⟩;obtain rfl:=nT o b;let⟨b,h⟩:=(m x d F f).2 A;exact⟨b,λb=>by rw[g?_of n,u x d,h b]⟩
 .let⟨x,n,f⟩:=touch_of o;rcases getElem?_append_cases n with ⟨_,l⟩|⟨_,d⟩
  .exact(H.wrote i a (by rw[touchAt_of l];exact f) s g j v).app _
  .rw[(m x d a f).1 ⟨g,j,v⟩]at s;cases s
 .rw[Deaf_other t (λz=>C (by rw[z];exact j)) _ u];exact H.hears g j
 .rcases nQ.1 c with c|c
  .exact H.seen op c
  .obtain⟨e,w,rfl⟩:=Go.Conc.mem_ofEvents c;exact(r e w).2
theorem qF(H:P3 Shun St U B h t)(k:∀op∈u,op.g=g)(l:∀op∈u,∀b,op.act.touch? =some b->b.write=false/\U g/\St g b.loc)(r:U g->Deaf (t++u) g=Deaf t g)(f:∀op∈u,op.act.low B):P3 Shun St U B h (t++u):=by
 refine⟨λsaid=>noRace_append (H.clean said) k λi a h op d b q j=>?_,λi a h m=>?_,λi a h n g' c s=>?_,λg' c=>?_,seen_app H.seen f⟩
 .let⟨_,o,f⟩:=l op d b q;rcases j.2.2.1 with x|x
  .exact H.wrote i a h x g o (j.1▸f)
  simp_all
 .let⟨x,j,b⟩:=touch_of h;rcases getElem?_append_cases j with ⟨q,f⟩|⟨_,d⟩
  .rcases H.known i a (by rw[touchAt_of f];exact b) m with o|⟨p,g',c,m⟩
   .exact .inl (o.app _)
   .exact .inr ⟨p,g',by rw[g?_old q];exact c,m⟩
  .exact .inr ⟨(l x d a b).1,g,by rw[g?_of j,k x d],(l x d a b).2⟩
 .let⟨x,j,b⟩:=touch_of h;rcases getElem?_append_cases j with ⟨_,f⟩|⟨_,d⟩
  .exact(H.wrote i a (by rw[touchAt_of f];exact b) n g' c s).app u
  grind
 .by_cases e:g=g'
  .subst e;rw[r c];exact H.hears g c
  .rw[Deaf_other t e _ k];exact H.hears g' c
theorem E8(H:P3 Shun St U B h t)(q:∀g l,U g->St g l->¬Shun l){fn:FuncId}{pos:String}{es:dS}(o:∀e∈es,(∀x,(MemAct.ofEvent e).touch? =some x->x.kind=.atomic/\Shun x.loc)/\(MemAct.ofEvent e).low B)(v:¬U c)(u:uc (Deaf t c) es):
 P3 Shun St U B h (t++MemOp.ofEvents c fn pos es):=by
 have s:PastG (nG St U) (λ_=>False) U B (Acc Shun h t) t:=⟨H.clean,λi a j m=>(H.known i a j m).imp id fun⟨p,g,d,n,k⟩=>⟨p,⟨g,n,k⟩,g,d,n⟩,λ_ _ _ _ _ _ z=>z.elim,λ_ z=>z.elim,H.seen⟩;have f:=zF (c:=c) (fn:=fn) (pos:=pos) s (λl ⟨g,d,k⟩=>q g l d k) o (λz=>z) u;have r:∀op∈MemOp.ofEvents c fn pos es,op.g=c:=fM;have h:∀op∈MemOp.ofEvents c fn pos es,∀b,op.act.touch? =some b->b.kind=.atomic/\Shun b.loc:=λop h b b=>by
  obtain⟨e,b,rfl⟩:=Go.Conc.mem_ofEvents h;grind
 refine⟨f.clean,λi a j m=>?_,λi a j o g d u=>?_,λg d=>?_,f.seen⟩
 .let⟨x,l,b⟩:=touch_of j;rcases getElem?_append_cases l with ⟨s,e⟩|⟨_,h⟩
  .rcases H.known i a (by rw[touchAt_of e];exact b) m with q|⟨p,g,d,k⟩
   .exact .inl (q.app _)
   .exact .inr ⟨p,g,by rw[g?_old s];exact d,k⟩
  .refine(f.known i a j m).imp id fun⟨_,_,g,d,n⟩=>?_;rw[g?_of l,r x h]at d;simp_all
 .let⟨x,l,b⟩:=touch_of j;rcases getElem?_append_cases l with ⟨_,e⟩|⟨_,h⟩
  .exact(H.wrote i a (by rw[touchAt_of e];exact b) o g d u).app _
  grind
 .rw[Deaf_other t (show c≠g from λz=>v (by rw[z];exact d)) _ r];exact H.hears g d
theorem AY(H:P3 Shun St U B h t)(s:∀g l,U g->St g l->¬Shun l)(F:∀g,U g->g≠j->pH g/\∀l,St g l->tW g l)(P:∀g,pH g->(U g/\g≠j/\∀l,tW g l->St g l)\/(g=h/\∀l,tW g l->l.isMemory=true/\¬Shun l))(L:∀op∈u,op.act.touch? =none)(M:∀op∈u,op.act.low B)(O:∀g,pH g->Deaf (t++u) g=0){p q:Nat}{x y:MemOp}(K:t.size<=p)(I:(t++u)[p]? =some x)(v:x.g=h)(x:(t++u)[q]? =some y)(s:y.g=j)(l:HappensBefore (t++u) p q):
 P3 Shun tW pH B j (t++u):=by
 have pass:∀i,Knows t h i->Knows (t++u) j i:=λi d=>⟨q,y,x,s,.inr ((d.hb_new K I v).trans l)⟩
 refine⟨λsaid=>noRace_appendMute (H.clean said) L,λi a D h=>?_,λi a D J g C E=>?_,O,seen_app H.seen M⟩
 .let⟨z,n,f⟩:=touch_of D;rcases getElem?_append_cases n with ⟨N,c⟩|⟨_,r⟩
  .rcases H.known i a (by rw[touchAt_of c];exact f) h with d|⟨G,g,C,o,A⟩
   .exact .inl (d.to (pass i))
   .by_cases e:g=j
    .subst e;have d:=knows_own n;rw[show z.g=g from by have:=g?_of c;simp_all]at d;refine .inl ⟨lt_size_of_getElem? n,.inl d,λh m w=>?_⟩;grind
    .exact .inr ⟨G,g,by rw[g?_old N];exact C,(F g o e).1,(F g o e).2 _ A⟩
  simp_all
 .let⟨z,n,f⟩:=touch_of D;rcases getElem?_append_cases n with ⟨_,c⟩|⟨_,r⟩
  .have m:touchAt t i=some a:=by rw[touchAt_of c];exact f
   rcases P g C with ⟨o,_,k⟩|⟨rfl,k⟩
   .exact(H.wrote i a m J g o (k _ E)).app u
   .let⟨c,e⟩:=k _ E;rcases H.known i a m c with ⟨_,d|⟨b,a,_,w,_⟩,_⟩|⟨a,_⟩
    .exact d.app u
    .simp_all
    simp_all
  simp_all
theorem E9(H:P3 Shun St U B h t)(f:∀g l,U g->St g l->¬Shun l)(u:∀g,U g->g≠j->pH g/\∀l,St g l->tW g l)(o:∀g,pH g->(U g/\g≠j/\∀l,tW g l->St g l)\/(g=h/\∀l,tW g l->l.isMemory=true/\¬Shun l))(n:Deaf t h=0)(q:U j)(d:FuncId)(ph:String)(b:FuncId)(a:String)(k:Nat)(s:c<B):
 P3 Shun tW pH B j (t++met h j d ph b a c k 0):=by
 have l:(t++met h j d ph b a c k 0)[t.size]? =some {g:=h,fn:=d,pos:=ph,act:=.send c k}:=by simp[met]
 have i:(t++met h j d ph b a c k 0)[t.size+3]? =some {g:=j,fn:=b,pos:=a,act:=.recvDone c k}:=by simp[met]
 have m:=met_quiet h j d ph b a c k 0;have v:(t++met h j d ph b a c k 0).deaf h t.size=0:=by rw[deaf_old (az _)];exact n
 have d3:(t++met h j d ph b a c k 0).deaf j (t.size+3)=0:=by rw[deaf_quiet (m j) 3 (by simp[met])];exact H.hears j q
 refine AY H f u o (met_mute h j d ph b a c k 0) (λop e=>?_) (λg r=>(Deaf_quiet (m g)).trans ?_) (az _) l rfl i rfl
  (Relation.TransGen.single (.inr ⟨.handOver (act?_of l) (act?_of i),⟨h,g?_of l,v⟩,⟨j,g?_of i,d3⟩⟩))
 .simp only[met,rq,ak,bH,or_false]at e;rcases e with rfl|rfl|rfl|rfl<;>exact s
 .rcases o g r with ⟨p,_⟩|⟨rfl,_⟩
  .exact H.hears g p
  .exact n
def Y8(e:FuncId)(ph:String)(f:FuncId)(b:String)(g:Nat):∀op∈(#[{g:=h,fn:=e,pos:=ph,act:=.go c},{g:=c,fn:=f,pos:=b,act:=.start}]:Trace),∀d,deafStep g d op=d:=by
 intro op a d;simp only[rq,ak,bH,or_false]at a;rcases a with rfl|rfl<;>rfl
theorem PA(H:P3 Shun St U B h t)(k:∀g l,U g->St g l->¬Shun l)(q:∀g,U g->pH g/\∀l,St g l->tW g l)(o:∀g,pH g->(U g/\g≠c/\∀l,tW g l->St g l)\/(g=h/\∀l,tW g l->l.isMemory=true/\¬Shun l))(n:Deaf t h=0)(j:Deaf t c=0)(d:FuncId)(ph:String)(e:FuncId)(b:String):
 P3 Shun tW pH B c (t++#[{g:=h,fn:=d,pos:=ph,act:=.go c},{g:=c,fn:=e,pos:=b,act:=.start}]):=by
 have l:(t++#[{g:=h,fn:=d,pos:=ph,act:=.go c},{g:=c,fn:=e,pos:=b,act:=.start}])[t.size]? =some {g:=h,fn:=d,pos:=ph,act:=.go c}:=ψ
 have f:(t++#[{g:=h,fn:=d,pos:=ph,act:=.go c},{g:=c,fn:=e,pos:=b,act:=.start}])[t.size+1]? =some {g:=c,fn:=e,pos:=b,act:=.start}:=ψ
 have m:=Y8 (h:=h) (c:=c) d ph e b
 refine AY H k (λg i _=>q g i) o (λop a=>?_) (λop a=>?_) (λg i=>(Deaf_quiet (m g)).trans ?_) (az _) l rfl f rfl
  (Relation.TransGen.single (.inr ⟨.spawn (act?_of l) (act?_of f) (g?_of f),⟨h,g?_of l,by rw[deaf_old (az _)];exact n⟩,⟨c,g?_of f,by rw[deaf_quiet (m c) 1 ψ];exact j⟩⟩))
 .simp only[rq,ak,bH,or_false]at a;rcases a with rfl|rfl<;>rfl
 .simp only[rq,ak,bH,or_false]at a;rcases a with rfl|rfl<;>trivial
 .rcases o g i with ⟨p,_⟩|⟨rfl,_⟩
  .exact H.hears g p
  .exact n
end
def gv(m x:Nat):Int:=((m*4294967296+x:Nat):Int)
section
variable(P:aG)(K:cK)(J:qt)
def O2(M:Nat->Goroutine->Prop)(Q:kr)(t:Nat)(g:aV):Prop:=
 (g.status=.running/\∃g',(∀w,K w->stepG P false g w=.go g' w #[])/\M t g')\/
 (t=0/\g.status=.running/\∃g',(∀w,K w->stepG P false g w=.go g' w #[uD (.releaseMerge J.st)])/\M 1 g')\/
 (t=1/\g.status=.running/\∃g',(∀w,K w->stepG P false g w=.go g' w #[uD .disable])/\M 2 g')\/
 (t=2/\g.status=.running/\
   (∀m x:Nat,m<9999->x<2->(x=0\/0<m)->∃g',(∀w,K w->ji .u64 J.st w (gv (m+1) x)->stepG P false g w=.go g' (w.setCell J.st (.int .u64 (gv m x))) #[tF J.st,Dt J.st])/\Q g')/\
   ∃g',(∀w,K w->ji .u64 J.st w (gv 1 1)->stepG P false g w=.go g' (w.setCell J.st (.int .u64 (gv 0 1))) #[tF J.st,Dt J.st])/\M 3 g')\/
 (t=3/\g.status=.running/\∃g',(∀w,K w->ji .u64 J.st w (gv 0 1)->stepG P false g w=.go g' w #[tF J.st])/\M 4 g')\/
 (t=4/\g.status=.running/\∃g',(∀w,K w->ji .u64 J.st w (gv 0 1)->stepG P false g w=.go g' (w.setCell J.st (.int .u64 (gv 0 0))) #[Dt J.st])/\M 5 g')\/
 (t=5/\g.status=.running/\mayWake P g=true/\∃g',g'.status=.running/\(∀w,K w->ji .u32 J.se w 0->stepG P false g w=.go g' (w.setCell J.se (.int .u32 1)) (semEvents J.se))/\Q g')
def DP:Nat->Nat->Goroutine->Prop
 |0,_,_=>False
 |n+1,t,g=>O2 P K J (DP n) (QuitsD P n 1) t g
end
section
variable{P:aG}{K:cK}{J:qt}{Q:kr}{t:Nat}{g:aV}
def O2.mono(i:∀w,K' w->K w)(h:∀t g,M t g->M' t g)(x:O2 P K J M Q t g):O2 P K' J M' Q t g:=by
 rcases x with ⟨a,g',b,c⟩|⟨a,b,g',c,d⟩|⟨a,b,g',c,d⟩|⟨a,b,e,g',c,d⟩|⟨a,b,g',c,d⟩|⟨a,b,g',c,d⟩|⟨a,b,c,g',d,e,f⟩
 .exact .inl ⟨a,g',λw y=>b w (i w y),h _ _ c⟩
 .exact .inr (.inl ⟨a,b,g',λw y=>c w (i w y),h _ _ d⟩)
 .exact .inr (.inr (.inl ⟨a,b,g',λw y=>c w (i w y),h _ _ d⟩))
 .exact .inr (.inr (.inr (.inl ⟨a,b,λm x g g g=>χ,g',λw y=>c w (i w y),h _ _ d⟩)))
 .exact .inr (.inr (.inr (.inr (.inl ⟨a,b,g',λw y=>c w (i w y),h _ _ d⟩))))
 .exact .inr (.inr (.inr (.inr (.inr (.inl ⟨a,b,g',λw y=>c w (i w y),h _ _ d⟩)))))
 .exact .inr (.inr (.inr (.inr (.inr (.inr ⟨a,b,c,g',d,λw y=>e w (i w y),f⟩)))))
def DP.mono(a:∀w,K' w->K w):∀(n t:Nat)(g:aV),DP P K J n t g->DP P K' J n t g
 |0,_,_,h=>h
 |n+1,_,_,h=>O2.mono a (λt g=>DP.mono a n t g) h
def DP.inv(h:DP P K J n t g):∃m,n=m+1/\O2 P K J (DP P K J m) (QuitsD P m 1) t g:=by
 cases n with
 |zero=>exact h.elim
 |succ m=>exact⟨m,rfl,h⟩
def DP.running(h:DP P K J n t g):g.status=.running:=by
 let⟨_,_,h⟩:=h.inv;rcases h with ⟨h,_⟩|⟨_,h,_⟩|⟨_,h,_⟩|⟨_,h,_⟩|⟨_,h,_⟩|⟨_,h,_⟩|⟨_,h,_⟩<;>exact h
end
structure C3(P:aG)(K:cK)(Shun:dm)(St:Nat->Loc->Prop)(B:Nat)(E:Nat->Option Seat)(J:qt)(h:Nat)(ds:aN)(Y:bU)(T:Trace)(O:jH)(w:aj)(q:bU):Prop where
 idle:∀i g,i≠h->i∉ds->O[i]? =some g->Idle P K (St i) B T i (q i) g (E i)
 dep:∀i,i∈ds->i≠h/\0<i/\E i=none/\∃g,O[i]? =some g/\DP P K J (q i) (Y i) g/\Deaf T i=dC (Y i)
 nd:ds.Nodup
 chans:∀i s c,E i=some s->s.has c->∃V k,w.heap[c]? =some (.chan V #[] false k k false)
 wf:∀i s,E i=some s->s.Wf
 inj:∀i i' s s' c,E i=some s->E i'=some s'->s.has c->s'.has c->i=i'
 above:∀j,O.size<=j->Deaf T j=0
 low:∀i s c,E i=some s->s.has c->c<B
 zL:E h=none
 ss:∀i l,(E i).isSome->St i l->¬Shun l
 past:P3 Shun St (λg=>(E g).isSome) B h T
 keep:K w
section
variable{P:aG}{K:cK}{J:qt}
def AtIn.less{s:Seat}{g a:aV}(c:∀w,K' w->K w)(x:AtIn P main K Still B s g a):AtIn P main K' Still B s g a:=by
 let⟨h,g,f,e,d,es,b,a⟩:=x;exact⟨h,g,f,e,d,es,b,λw b=>a w (c w b)⟩
def uH{main:Bool}{D:yW}{S e:gi}(b:∀w,K' w->K w)(c:∀g w,S g w->e g w):
 ∀{n:Nat}{g:aV}{w:aj},Goes P main (RK K) D S n g w->Goes P main (RK K') D e n g w
 |0,_,_,h=>λa r=>c _ _ (h a (b _ r))
 |n+1,_,_,h=>h.elim (λx=>.inl λa r=>c _ _ (x a (b _ r))) fun⟨e,x⟩=>.inr ⟨e,λa r=>by
  have:=x a (b _ r);revert this;cases stepG P main _ a<;>simp only[GStep.goes,imp_self];exact fun⟨d,y⟩=>⟨d,uH b c y⟩⟩
def Sits.less{main:Bool}{Still:dm}{s:Seat}{n:Nat}{g:aV}(d:∀w,K' w->K w)(x:Sits P main K Still B s n g):Sits P main K' Still B s n g:=by
 rcases x with ⟨k,w,e,f⟩|⟨e,b,a,g,c⟩
 .exact .inl ⟨k,w,e,uH d (λ_ _ ⟨a,y⟩=>⟨a,AtIn.less d y⟩) f⟩
 .exact .inr ⟨e,b,a,g,AtIn.less d c⟩
theorem C3.less(C:C3 P K Shun St B E J h ds Y T O w q)(b:∀w,K' w->K w)(c:K' w):C3 P K' Shun St B E J h ds Y T O w q:=by
 refine⟨λi g a f d=>?_,λi a=>?_,C.nd,C.chans,C.wf,C.inj,C.above,C.low,C.zL,C.ss,C.past,c⟩
 .have:=C.idle i g a f d;cases e:E i with
  |none=>rw[e]at this;exact this
  |some s=>rw[e]at this;exact Sits.less b this
 .let⟨j,h,f,g,e,d,c⟩:=C.dep i a;exact⟨j,h,f,g,e,DP.mono b _ _ _ d,c⟩
theorem C3.raise(C:C3 P K Shun St B E J h ds Y T O w q)(a:B<=B'):C3 P K Shun St B' E J h ds Y T O w q:=by
 refine⟨λi g b f d=>?_,C.dep,C.nd,C.chans,C.wf,C.inj,C.above,λi s c e h=>ga (C.low i s c e h) a,C.zL,C.ss,C.past.mono a,C.keep⟩;have:=C.idle i g b f d;cases e:E i with
 |none=>rw[e]at this;exact this
 |some s=>rw[e]at this;exact Sits.raise a this
theorem C3.in(C:C3 P K Shun St B E J h ds Y T O w q)(b:K w')(a:∀i s c,E i=some s->s.has c->w'.heap[c]? =w.heap[c]?):C3 P K Shun St B E J h ds Y T O w' q:=
 ⟨C.idle,C.dep,C.nd,λi s c e a=>by let⟨V,k,d⟩:=C.chans i s c e a;grind,C.wf,C.inj,C.above,C.low,C.zL,C.ss,C.past,b⟩
theorem C3.fixed(C:C3 P K Shun St B E J h ds Y T O w q)(f:x≠h)(b:O[x]? =some y):y.again w=y:=by
 by_cases d:x∈ds
 .let⟨_,_,_,_,g,i,_⟩:=C.dep x d;rw[g]at b;obtain rfl:=Option.some.inj b;exact again_running _ (.inl i.running)
 have a:=C.idle x y f d b;cases e:E x with
 |none=>rw[e]at a;exact again_running _ a.2.status
 |some s=>rw[e]at a;exact Go.Conc.Sits.again C.keep a (C.wf x s e) λc d=>by let⟨V,k,f⟩:=C.chans x s c e d;simp_all
theorem C3.noSend(C:C3 P K Shun St B E J h ds Y T O w q)(i:x≠h)(b:O[x]? =some y)(c:Nat):offersAt y c true=[]:=by
 by_cases f:x∈ds
 .let⟨_,_,_,_,g,j,_⟩:=C.dep x f;rw[g]at b;obtain rfl:=Option.some.inj b;exact offersAt_of_not_blocked (by rw[j.running];simp) c true
 have a:=C.idle x y i f b;cases e:E x with
 |none=>
  rw[e]at a;exact offersAt_of_not_blocked (λd=>by rcases a.2.status with z|z<;>rw[z]at d<;>cases d) c true
 |some s=>
  rw[e]at a;rcases id a with ⟨k,f,f,_⟩|⟨_,_,f,rfl,_⟩
  .have:=(Go.Conc.Sits.status C.keep a).elim (·.1) (λz=>ω);exact offersAt_of_not_blocked (λd=>ξ) c true
  .exact offersAt_parked_sends (λcc c=>by obtain⟨f,f,rfl⟩:=(C.wf x s e).recvs cc c;rfl) _
theorem C3.MH(C:C3 P K Shun St B E J h ds Y T O w q)(l:x≠h)(d:O[x]? =some y)(m:∀s,E x=some s->¬s.has c):offersAt y c false=[]:=by
 by_cases i:x∈ds
 .let⟨_,_,_,_,g,n,_⟩:=C.dep x i;rw[g]at d;obtain rfl:=Option.some.inj d;exact offersAt_of_not_blocked (by rw[n.running];simp) c false
 have a:=C.idle x y l i d;cases e:E x with
 |none=>
  rw[e]at a;exact offersAt_of_not_blocked (λf=>by rcases a.2.status with z|z<;>rw[z]at f<;>cases f) c false
 |some s=>
  rw[e]at a;rcases id a with ⟨k,g,g,_⟩|⟨_,_,g,rfl,_⟩
  .have:=(Go.Conc.Sits.status C.keep a).elim (·.1) (λz=>ω);exact offersAt_of_not_blocked (λf=>ξ) c false
  .refine offersAt_parked_off (λcc b j=>?_) _;obtain⟨c,c,rfl⟩:=(C.wf x s e).recvs cc b;simp only[rcase,Value.chan.injEq,Option.some.injEq]at j;subst j;exact m s e (Seat.has_of_mem b)
theorem C3.awake(C:C3 P K Shun St B E J h ds Y T O w q){a:aV}(j:O[h]? =some a)(j:a.status=.running\/a.status=.blocked)(g:aV)(a:g∈O):Go.Conc.awake g:=by
 let⟨i,b⟩:=Array.mem_iff_getElem?.1 a;refine awake_of ?_;by_cases e:i=h
 .grind
 by_cases d:i∈ds
 .let⟨_,_,_,g',a,f,_⟩:=C.dep i d;rw[a]at b;obtain rfl:=Option.some.inj b;exact .inl f.running
 have c:=C.idle i g e d b;revert c;cases E i with
 |none=>exact λz=>z.2.status.imp_right .inr
 |some s=>exact λz=>(Go.Conc.Sits.status C.keep z).imp And.left λy=>.inl y.1
theorem C3.lay(C:C3 P K Shun St B E J h ds Y T O w q){l:Nat}{I:Array MemOp}{b:jH}(p:i≠h)(o:i∉ds)(p:i<O.size)(p:b.size=O.size)(f:∀x,x≠i->b[x]? =O[x]?)(c:b[i]? =some g')(a:∀op∈I,op.g=i)(d:Idle P K (St i) B (T++I) i l g' (E i))(p:P3 Shun St (λg=>(E g).isSome) B h (T++I)):C3 P K Shun St B E J h ds Y (T++I) b w (upd q i l):=by
 refine⟨λx y n r m=>?_,λx n=>?_,C.nd,C.chans,C.wf,C.inj,λj b=>?_,C.low,C.zL,C.ss,p,C.keep⟩
 .by_cases e:x=i
  .subst e;rw[c]at m;obtain rfl:=Option.some.inj m;rw[upd_same];exact d
  .rw[f x e]at m;rw[upd_ne q l e];have k:=C.idle x y n r m;cases es:E x with
   |none=>rw[es]at k;exact⟨k.1,by rw[Deaf_other T (λz=>e z.symm) I a];exact k.2⟩
   |some s=>rw[es]at k;exact k
 .have e:x≠i:=λz=>o (z▸n);let⟨h,f,d,g,_,c,b⟩:=C.dep x n;exact⟨h,f,d,g,ξ,by rw[upd_ne q l e];exact c,by rw[Deaf_other T (λz=>e z.symm) I a];exact b⟩
 .rw[Deaf_other T (g':=i) ω I a];exact C.above j ω
def gW{k:Nat}(b:i<n)(a:q i=k+1){a:Nat}(c:a<=k):sumTo n (upd q i a)<sumTo n q:=by
 have c:sumTo n (upd q i a)+(k+1)=sumTo n q+a:=by
  have:=sumTo_upd q a id b;simp_all
 omega
theorem C3.L8(C:C3 P K Shun St B E J h ds Y T O w q){g:aV}{sl:qT}(M:O[i]? =some g)(t:i≠h)(u:i∉ds)(r:g.status=.running)(A:∀A,O[h]? =some A->A.again w=A)(hO:∀s a,E i=some s->AtIn P (i==0) K (St i) B s g a->∀A c,O[h]? =some A->s.has c->offersAt A c true=[]):
 ∃(A:jH)(I:Array MemOp)(S:bU),runT P (crowd O w sl) i=(.next (crowd A w sl),I)/\(∀op∈I,op.g=i)/\A.size=O.size/\(∀x,x≠i->A[x]? =O[x]?)/\(∀x,x≠i->S x=q x)/\(∀s,E i=some s->S i=0->∃a,AtIn P (i==0) K (St i) B s g a)/\
   C3 P K Shun St B E J h ds Y (T++I) A w S/\sumTo O.size S<sumTo O.size q:=by
 have d:i<O.size:=(cU.1 M).1;have A:∀(A:aV)(x:Nat)(y:aV),O[x]? =some y->woken P g A w y=y:=λA x y Z=>woken_of_again (by
  by_cases n:x=h
  .simp_all
  .exact C.fixed n Z)
 have f:∀(g':aV)(x:Nat),x≠i->((O.map (woken P g g' w)).setIfInBounds i g')[x]? =O[x]? :=by
  grind
 have p:∀(g':aV),((O.map (woken P g g' w)).setIfInBounds i g')[i]? =some g':=λg'=>Lt ξ;have W:=C.idle i g t u M;cases e:E i with
 |none=>
  rw[e]at W;let⟨L,U⟩:=W;have hi0:(i==0)=false:=θ
  cases j:q i with
  |zero=>rw[j]at U;rw[U.1]at r;cases r
  |succ k=>
   rw[j]at U;rcases U with ⟨A,_⟩|⟨_,g',es,hm,o,Na⟩
   .simp_all
   refine⟨_,_,upd q i k,runT_crowd_go (sl:=sl) M (by rw[hi0];exact o w),fM,ψ,f _,λx n=>upd_ne q k n,λs D _=>(by cases D),?_,gW d j (az _)⟩;refine C.lay t u d ψ (f _) (p _) fM (by rw[e];exact⟨L,by rw[Deaf_own];exact Na⟩) ?_;exact qF C.past fM (λop l b Q=>by obtain⟨e,he,rfl⟩:=Go.Conc.mem_ofEvents l;rw[touch_mute (hm e he)]at Q;cases Q) (λD=>ξ) (λop l=>by obtain⟨e,he,rfl⟩:=Go.Conc.mem_ofEvents l;exact low_mute (hm e he) B)
 |some s=>
  rw[e]at W;obtain⟨k,A,j,hg⟩:∃k A,q i=k+1/\Goes P (i==0) (RK K) (DS (St i) B) (λg _=>∃a,AtIn P (i==0) K (St i) B s g a) k g A:=by
   rcases W with x|⟨_,_,a,rfl,_⟩
   .exact x
   .cases r
  have F:(∃a,AtIn P (i==0) K (St i) B s g a)\/∃H g' es,k=H+1/\stepG P (i==0) g w=.go g' w es/\(∀e∈es,EvC (St i) B e)/\Goes P (i==0) (RK K) (DS (St i) B) (λg _=>∃a,AtIn P (i==0) K (St i) B s g a) H g' w:=by
   cases k with
   |zero=>exact .inl (hg w C.keep)
   |succ H=>
    rcases hg with k|⟨_,A⟩
    .exact .inl (k w C.keep)
    .have D:=A w C.keep;cases v:stepG P (i==0) g w with
     |go g' w' es=>
      rw[v,goes_go]at D;obtain⟨⟨rfl,m⟩,R⟩:=D;grind
     |_=>rw[v]at D;exact D.elim
  have A:(E i).isSome:=by rw[e];rfl
  have rd:∀{fn:FuncId}{k:String}{es:dS},(∀e∈es,EvC (St i) B e)->P3 Shun St (λg=>(E g).isSome) B h (T++MemOp.ofEvents i fn k es):=fun{fn k es} m=>by
   let⟨B,K,L,P⟩:=evC_ops (i:=i) (fn:=fn) (pos:=k) m;exact qF C.past B (λop l b Q=>⟨(K op l b Q).1,A,(K op l b Q).2⟩) (λ_=>P T) L
  rcases F with ⟨a,G⟩|⟨H,g',es,rfl,v,m,R⟩
  .have b:=hO s a e G;let⟨_,_,_,_,_,es,m,o⟩:=id G;have hw:∀cc∈s.cases,NoWays w (O.setIfInBounds i ph) cc:=by
    intro cc N;obtain⟨c,z,rfl⟩:=(C.wf i s e).recvs cc N;have b:=Seat.has_of_mem N;let⟨V,_,k⟩:=C.chans i s c e b;refine ways_recv_none k (partners_nil λx y Z=>?_);rcases getElem?_stand O i x y Z with ⟨_,rfl⟩|⟨n,X⟩
    .rfl
    .by_cases b:x=h
     .simp_all
     .exact C.noSend b X _
   refine⟨_,_,upd q i 0,crowd_waits (sl:=sl) M (o w C.keep) hw,fM,ψ,λx n=>ku (λz=>n z.symm),λx n=>upd_ne q 0 n,λb c _=>χ,?_,gW d j (gl _)⟩;exact C.lay t u d ψ (λx n=>ku (λz=>n z.symm)) (Lt d) fM (by rw[e];exact .inr ⟨rfl,g,a,rfl,G⟩) (rd m)
  .refine⟨_,_,upd q i (H+1),runT_crowd_go (sl:=sl) M v,fM,ψ,f _,λx n=>upd_ne q _ n,λb _ h0=>(by rw[upd_same]at h0;omega),?_,gW d j (az _)⟩;exact C.lay t u d ψ (f _) (p _) fM (by rw[e];exact .inl ⟨H,w,rfl,R⟩) (rd m)
theorem C3.own(C:C3 P K Shun St B E J h ds Y T O w q){a a':aV}{es:dS}(t:O[h]? =some a)(o:K w')(l:∀i s c,E i=some s->s.has c->w'.heap[c]? =w.heap[c]?)(k:∀e∈es,wE Shun (nG St (λg=>(E g).isSome)) B h e):
 C3 P K Shun St B E J h ds Y (T++MemOp.ofEvents h a.frame.fn a.frame.place es) ((O.map (woken P a a' w')).setIfInBounds h a') w' q/\((O.map (woken P a a' w')).setIfInBounds h a')[h]? =some a':=by
 have c:h<O.size:=(cU.1 t).1;have r:=C.in o l;have d:∀x,x≠h->((O.map (woken P a a' w')).setIfInBounds h a')[x]? =O[x]? :=by
  intro x b;rw[ku (λe=>b e.symm),sO];cases e:O[x]? with
  |none=>rfl
  |some y=>simp[woken_of_again (P:=P) (x:=a) (x':=a') (r.fixed b e)]
 have p:∀x,x≠h->Deaf (T++MemOp.ofEvents h a.frame.fn a.frame.place es) x=Deaf T x:=λx b=>Deaf_other T (λz=>b z.symm) _ fM;refine⟨⟨λx y b a m=>?_,λx b=>?_,C.nd,r.chans,C.wf,C.inj,λj n=>?_,C.low,C.zL,C.ss,zH C.past k (by rw[C.zL];simp),o⟩,Lt ξ⟩
 .rw[d x b]at m;have f:=C.idle x y b a m;cases e:E x with
  |none=>rw[e]at f;exact⟨f.1,by rw[p x b];exact f.2⟩
  |some s=>rw[e]at f;exact f
 .let⟨_,_,_,g,_,_,a⟩:=C.dep x b;simp_all
 .simp only[zb,Aq]at n;rw[p j ω];exact C.above j n
end
def set_set(w:aj)(z:Addr)(u v:ay):(w.setCell z u).setCell z v=w.setCell z v:=by
 refine fK (λr=>?_) rfl rfl rfl rfl;simp only[heap_set];by_cases h:z.block=r<;>simp only[h,if_true,if_false];cases w.heap[r]? with
 |none=>rfl
 |some o=>
  cases o with
  |cells c e f=>
   simp only[fI,mB];simp_all
  |_=>rfl
def GN(b:ir w z.block){buf:gd}{y:Nat}{a:Bool}(h:w.heap[c]? =some (.chan V buf cl x y a)):(w.setCell z v).heap[c]? =w.heap[c]? :=by
 rw[(nZ z v b h (λ_ _ _ e=>by cases e)).2,h]
def vB(w:aj)(a:z.block≠c)(v:ay)(V:Nat)(buf:gd)(cl:Bool)(x y:Nat)(b:Bool):(w.setCell z v).setChan c V buf cl x y b=(w.setChan c V buf cl x y b).setCell z v:=by
 refine fK (λr=>?_) rfl rfl rfl rfl;rw[heap_set];by_cases e:c=r
 .subst e;rw[af a];simp only[World.setChan,ze,if_true];simp
 .rw[heap_setChan_ne _ _ _ _ _ _ _ e,heap_set,heap_setChan_ne _ _ _ _ _ _ _ e]
section
variable{P:aG}{K:cK}{J:qt}
theorem C3.BB(C:C3 P K Shun St B E J h ds Y T O w q){g:aV}{es:dS}(v:qT)(U:i∈ds)(r:O[i]? =some g)(b:stepG P false g w=.go g' w' es)(G:K w')(F:∀i s c,E i=some s->s.has c->w'.heap[c]? =w.heap[c]?)(c:∀e∈es,(∀x,(MemAct.ofEvent e).touch? =some x->x.kind=.atomic/\Shun x.loc)/\(MemAct.ofEvent e).low B)(X:uc (Deaf T i) es):
 ∃b,runT P (crowd O w v) i=(.next (crowd b w' v),MemOp.ofEvents i g.frame.fn g.frame.place es)/\b.size=O.size/\(∀x,x≠i->x≠h->b[x]? =O[x]?)/\(∀y,O[h]? =some y->b[h]? =some (woken P g g' w' y))/\b[i]? =some g'/\
  (∀d o,DP P K J d o g'->deafBehind (Deaf T i) es=dC o->C3 P K Shun St B E J h ds (upd Y i o) (T++MemOp.ofEvents i g.frame.fn g.frame.place es) b w' (upd q i d))/\
  (∀d,QuitsD P d (deafBehind (Deaf T i) es) g'->C3 P K Shun St B E J h (ds.erase i) Y (T++MemOp.ofEvents i g.frame.fn g.frame.place es) b w' (upd q i d)):=by
 have b:i<O.size:=(cU.1 r).1;let⟨d1,d2,d3,_⟩:=C.dep i U;have b:(i==0)=false:=θ
 have Q:=C.in G F;have H:∀x,x≠i->Deaf (T++MemOp.ofEvents i g.frame.fn g.frame.place es) x=Deaf T x:=λx f=>Deaf_other T (λz=>f z.symm) _ fM;have R:=E8 (c:=i) (fn:=g.frame.fn) (pos:=g.frame.place) C.past (λg l w b=>C.ss g l w b) c ξ X;have k:∀x,x≠i->x≠h->((O.map (woken P g g' w')).setIfInBounds i g')[x]? =O[x]? :=by
  intro x f A;rw[ku (λe=>f e.symm),sO];cases e:O[x]? with
  |none=>rfl
  |some y=>simp[woken_of_again (P:=P) (x:=g) (x':=g') (Q.fixed A e)]
 have a:((O.map (woken P g g' w')).setIfInBounds i g')[i]? =some g':=Lt ξ;have u:∀j,((O.map (woken P g g' w')).setIfInBounds i g').size<=j->Deaf (T++MemOp.ofEvents i g.frame.fn g.frame.place es) j=0:=λj S=>by
  simp only[zb,Aq]at S;rw[H j ω];exact C.above j S
 have n:∀(d x:Nat)(y:aV),x≠h->x∉ds->((O.map (woken P g g' w')).setIfInBounds i g')[x]? =some y->Idle P K (St x) B (T++MemOp.ofEvents i g.frame.fn g.frame.place es) x (upd q i d x) y (E x):=by
  intro d x y f t p;have m:x≠i:=λz=>t (z▸U);rw[k x m f]at p;rw[upd_ne q d m];have:=C.idle x y f t p;cases e:E x with
  |none=>rw[e]at this;exact⟨this.1,by rw[H x m];exact this.2⟩
  |some s=>rw[e]at this;exact this
 refine⟨_,runT_crowd_go (sl:=v) r χ,ψ,k,λy p=>?_,a,λd o t D=>?_,λd W=>?_⟩
 .simp_all
 .refine⟨n d,λx f=>?_,C.nd,Q.chans,C.wf,C.inj,u,C.low,C.zL,C.ss,R,G⟩;by_cases e:x=i
  .subst e;exact⟨d1,d2,d3,g',a,by rw[upd_same,upd_same];exact t,by rw[Deaf_own,upd_same];exact D⟩
  .let⟨N,M,L,y,Z,I,V⟩:=C.dep x f;exact⟨N,M,L,y,ξ,by rw[upd_ne q d e,upd_ne Y o e];exact I,by rw[H x e,upd_ne Y o e];exact V⟩
 .refine⟨λx y f t p=>?_,λx f=>?_,C.nd.erase i,Q.chans,C.wf,C.inj,u,C.low,C.zL,C.ss,R,G⟩
  .by_cases e:x=i
   .subst e;rw[a]at p;obtain rfl:=Option.some.inj p;rw[d3,upd_same];exact⟨d2,by rw[Deaf_own];exact W⟩
   simp_all
  .have e:x≠i:=λz=>by subst z;exact(C.nd.mem_erase_iff.1 f).1 rfl
   let⟨N,M,L,y,Z,I,V⟩:=C.dep x (Hy f);exact⟨N,M,L,y,ξ,by rw[upd_ne q d e];exact I,ξ⟩
end
structure GK(K:cK)(Shun:dm)(J:qt):Prop where
 at':∀w d,K w->K (w.at d)
 st:∀w v,K (w.setCell J.st v)↔K w
 row:∀w,K w->ir w J.st.block/\(∃v,w.cell? J.st=some v)/\w.frozen? J.st=false
 sh:Shun (.cell J.st)
def Wv(J:qt)(w:aj)(m:Nat):World:=w.setCell J.st (.int .u64 (gv m 0))
section
variable{P:aG}{K Q:cK}{J:qt}{a g:aV}
def HC(m:Nat):(Wv J w m).heap.size=w.heap.size:=by simp[Wv,World.setCell]
def zg(G:GK K Shun J)(c:K w)(m:Nat):ji .u64 J.st (Wv J w m) (gv m 0):=by
 let⟨⟨v,a⟩,b⟩:=(G.row w c).2;exact⟨D6 _ _ _ a,by rw[Wv,YB];exact b⟩
def jA(G:GK K Shun J){m:Nat}:K (Wv J w m)↔K w:=G.st w _
def eG(G:GK K Shun J)(b:K w)(m:Nat){k:Nat}(a:w.heap[c]? =some (.chan V #[] false k k false)):(Wv J w m).heap[c]? =w.heap[c]? :=GN (G.row w b).1 a
def nR(G:GK K Shun J)(d:K w)(m:Nat){k:Nat}(a:(Wv J w m).heap[c]? =some (.chan V #[] false k k false)):w.heap[c]? =some (.chan V #[] false k k false):=by
 unfold Wv at a;rw[heap_set]at a;let⟨cs,el,f,b⟩:=(G.row w d).1;by_cases e:J.st.block=c
 .rw[sJ e,<-e,b]at a;simp[mB]at a
 simp_all
theorem C3.by(G:GK K Shun J)(Z:J.st.block<B)(hm:L+ds.length<=9999)(F:∀i,i∈ds->Y i<=2)(C:C3 P K Shun St B E J h ds Y T O (Wv J w (L+ds.length)) q){i:Nat}{sl:qT}(Q:O[i]? =some g)(W:i≠h)(H:g.status=.running)(hA:∀v m,O[h]? =some v->v.again (Wv J w m)=v)(hO:∀s f,E i=some s->AtIn P (i==0) K (St i) B s g f->∀v c,O[h]? =some v->s.has c->offersAt v c true=[]):
 ∃a I p b l,runT P (crowd O (Wv J w (L+ds.length)) sl) i=(.next (crowd a (Wv J w (L+b.length)) sl),I)/\(∀op∈I,op.g=i)/\a.size=O.size/\a[h]? =O[h]? /\(∀x,x≠i->p x=q x)/\(∀s,E i=some s->p i=0->∃f,AtIn P (i==0) K (St i) B s g f)/\
  C3 P K Shun St B E J h b l (T++I) a (Wv J w (L+b.length)) p/\(∀i,i∈b->l i<=2)/\b.length<=ds.length/\sumTo O.size p<sumTo O.size q:=by
 have o:K w:=(jA G).1 C.keep;by_cases n:i∈ds
 .let⟨d1,d2,d3,g',d4,d5,D⟩:=C.dep i n;rw[Q]at d4;obtain rfl:=Option.some.inj d4;have N:i<O.size:=(cU.1 Q).1;let⟨k,M,hD⟩:=d5.inv;have wk:∀(j:aV)(m:Nat)(a:jH),(∀y,O[h]? =some y->a[h]? =some (woken P g j (Wv J w m) y))->a.size=O.size->a[h]? =O[h]? :=λj m a hy M1=>by
   cases e:O[h]? with
   |none=>simp_all
   |some y=>rw[hy y e,woken_of_again (hA y m e)]
  have still:∀(j:aV)(es:dS)(z:Nat),stepG P false g (Wv J w (L+ds.length))=.go j (Wv J w (L+ds.length)) es->(∀e∈es,(∀x,(MemAct.ofEvent e).touch? =some x->x.kind=.atomic/\Shun x.loc)/\(MemAct.ofEvent e).low B)->uc (Deaf T i) es->DP P K J k z j->deafBehind (Deaf T i) es=dC z->z<=2->
   ∃a I p b l,runT P (crowd O (Wv J w (L+ds.length)) sl) i=(.next (crowd a (Wv J w (L+b.length)) sl),I)/\(∀op∈I,op.g=i)/\a.size=O.size/\a[h]? =O[h]? /\(∀x,x≠i->p x=q x)/\(∀s,E i=some s->p i=0->∃f,AtIn P (i==0) K (St i) B s g f)/\
   C3 P K Shun St B E J h b l (T++I) a (Wv J w (L+b.length)) p/\(∀i,i∈b->l i<=2)/\b.length<=ds.length/\sumTo O.size p<sumTo O.size q:=by
   intro j es z d f b hd X t;let⟨a,S,A,e3,R,e5,e6,_⟩:=C.BB sl n Q d C.keep (λ_ _ _ _ _=>rfl) f b;refine⟨a,_,upd q i k,ds,upd Y i z,S,fM,A,wk j _ a R A,λx r=>upd_ne q k r,λs hs=>ξ,e6 k z hd X,λx r=>?_,az _,gW N M (az _)⟩;by_cases e:x=i
   .subst e;rw[upd_same];exact t
   .rw[upd_ne Y z e];simp_all
  have f:=F i n;rcases hD with ⟨_,j,d,b⟩|⟨t,_,j,d,b⟩|⟨t,_,j,d,b⟩|⟨t,_,e,_⟩|⟨t,_⟩|⟨t,_⟩|⟨t,_⟩
  .exact still j _ _ (d _ C.keep) oa (iQ oa) b (by rw[D];rfl) f
  .exact still j _ 1 (d _ C.keep) (c8 (jS rfl Z)) (iQ (c8 rfl)) b (by rw[D,t];rfl) ω
  .exact still j _ 2 (d _ C.keep) (c8 (jS rfl trivial)) (iQ (c8 rfl)) b (by rw[D,t];rfl) ω
  .obtain⟨m,U⟩:∃m,L+ds.length=m+1:=⟨L+ds.length-1,χ⟩
   let⟨j,d,hq⟩:=e m 0 ω ω (.inl rfl);have b:L+(ds.erase i).length=m:=χ
   have u:=d _ C.keep (by rw[U];exact zg G o _);rw[show(Wv J w (L+ds.length)).setCell J.st (.int .u64 (gv m 0))=Wv J w m from set_set _ _ _ _]at u;rw[t]at D;let⟨a,S,A,e3,R,e5,_,d⟩:=C.BB sl n Q u ((jA G).2 o) (λx s c r f=>by
    let⟨V,_,e⟩:=C.chans x s c r f;have c:=nR G o _ e;rw[eG G o _ c,eG G o _ c]) (pg (cL G.sh Z) (cL G.sh Z)) (mR (by rw[D];decide) ψ)
   refine⟨a,_,upd q i k,ds.erase i,Y,by rw[b];exact S,fM,A,wk j _ a R A,λx r=>upd_ne q k r,λs hs=>ξ,by rw[b];exact d k (by rw[D];exact hq),λx r=>F x (Hy r),List.length_erase_le,gW N M (az _)⟩
  .omega
  .omega
  .omega
 .let⟨_,I,p,S,A,e3,R,e5,e6,d,a⟩:=C.L8 (sl:=sl) Q W n H (λv r=>hA v _ r) hO;grind
theorem mF(G:GK K Shun J)(hB:J.st.block<B)(o8:nb<=9999)(V:a.status=.running):∀(Q:Nat)(O:jH)(T:Trace)(q:bU)(u:qT)(b:Nat)(ds:aN)(Y:bU),sumTo O.size q=Q->O[h]? =some a->L+ds.length<=nb->(∀i,i∈ds->Y i<=2)->C3 P K Shun St B E J h ds Y T O (Wv J (w.at b) (L+ds.length)) q->
 ∃N j n d f o M R k r,runNT P N (crowd O (Wv J (w.at b) (L+ds.length)) u) T=(.next (crowd j (Wv J (w.at n) (L+k.length)) f),M)/\stepT P (crowd j (Wv J (w.at n) (L+k.length)) f)=runT P (crowd j (Wv J (w.at d) (L+k.length)) o) h/\j.size=O.size/\j[h]? =some a/\L+k.length<=nb/\(∀i,i∈k->r i<=2)/\
  C3 P K Shun St B E J h k r M j (Wv J (w.at d) (L+k.length)) R/\Deaf M h=Deaf T h:=by
 intro Q;induction Q using Nat.strongRecOn with
 |_ Q Z=>
  intro O T q u b ds Y Q A hL y C;let⟨i,_,d,o,hi,hg,g⟩:=crowd_pick (P:=P) (w:=Wv J (w.at b) (L+ds.length)) (sl:=u) (C.awake A (.inl V)) ⟨h,a,A,V⟩;have l:stepT P (crowd O (Wv J (w.at b) (L+ds.length)) u)=runT P (crowd O (Wv J (w.at d) (L+ds.length)) o) i:=g;have X:C3 P K Shun St B E J h ds Y T O (Wv J (w.at d) (L+ds.length)) q:=C.in (G.at' _ d C.keep) (λ_ _ _ _ _=>rfl);by_cases e:i=h
  .subst e;exact⟨0,O,b,d,u,o,T,q,ds,Y,rfl,l,rfl,A,hL,y,X,rfl⟩
  .let⟨j,I,R,k,r,W,z,U,_,_,_,C',x,_,a⟩:=X.by (sl:=o) G hB ω y hi e hg (λgx m p=>by rw[A]at p;obtain rfl:=Option.some.inj p;exact again_running _ (.inl V))
    (λs a _ _ gx c p _=>by rw[A]at p;obtain rfl:=Option.some.inj p;exact offersAt_of_not_blocked χ _ _)
   let⟨N,D,n,F,f,t,M,S,H,v,h1,h2,h3,h4,h5,h6,h7,h8⟩:=Z (sumTo j.size R) χ j _ R o d k r rfl χ ω x C';exact⟨N+1,D,n,F,f,t,M,S,H,v,by simp only[runNT,l,W];exact h1,h2,by rw[h3,U],h4,h5,h6,h7,by rw[h8];exact Deaf_other T e _ z⟩
def fP(P:aG)(Post:qz)(K Q:cK)(Shun:dm)(St:Nat->Loc->Prop)(E:Nat->Option Seat)(J:qt)(L nb h n dl:Nat)(g:aV)(w:aj):Prop:=
 ∀(d:Nat)(O:jH)(T:Trace)(q:bU)(sl:qT)(ds:aN)(Y:bU),O.size=n->O[h]? =some g->L+ds.length<=nb->(∀i,i∈ds->Y i<=2)->Q w->Deaf T h=dl->
   C3 P K Shun St w.heap.size E J h ds Y T O (Wv J (w.at d) (L+ds.length)) q->Goal P Post (crowd O (Wv J (w.at d) (L+ds.length)) sl) T
theorem fP.go(G:GK K Shun J)(o:nb<=9999)(t:a.status=.running)(x:∀w d,Q w->Q (w.at d))(b:∀d,K (w.at d)->Q (w.at d)->∃g' w' es,(∀m,stepG P (h==0) a (Wv J (w.at d) m)=.go g' (Wv J w' m) es)/\K w'/\Q w'/\(∀(c V k:Nat),w.heap[c]? =some (Obj.chan V #[] false k k false)->w'.heap[c]? =w.heap[c]?)/\w.heap.size<=w'.heap.size/\
 (∀e∈es,wE Shun (nG St (λg=>(E g).isSome)) w'.heap.size h e)/\fP P Post K Q Shun St E J L nb h n (deafBehind dl es) g' w'):fP P Post K Q Shun St E J L nb h n dl a w:=by
 intro a O T q h ds Y e m n g u v C;have y:J.st.block<w.heap.size:=(G.row _ ((jA G).1 C.keep)).1.lt;let⟨N,_,_,d,_,f,_,_,j,l,F,D,e,r,B,A,p,z⟩:=mF G y o t _ O T q h a ds Y rfl m n g C;have a:K (w.at d):=(jA G).1 p.keep;let⟨g',w',es,t,g,q,o,h,n,m⟩:=b d a (x _ _ u);let⟨u,e⟩:=(p.raise h).own (a':=g') (w':=Wv J w' (L+j.length)) r ((jA G).2 g) (λi s c b h=>by
  let⟨V,k,d⟩:=p.chans i s c b h;have h:=nR G a _ d;have d:w.heap[c]? =some (.chan V #[] false k k false):=h;have b:=o c V k d;rw[eG G a _ h,eG G g _ (b.trans d)];exact b) n
 refine Goal.back (lE F (D.trans (runT_crowd_go (sl:=f) r (t _)))) ?_;exact m w'.drawn _ _ _ f j l ξ e B A q (by rw[Deaf_own,z,v]) u
theorem JJ(G:GK K Shun J)(f:nb<=9999)(i:∀w d,Q w->Q (w.at d))(o:∀w w' es,D w w' es->DR K Shun (nG St (λg=>(E g).isSome)) h w w' es/\(Q w->Q w'))(l:∀w d,D w (w.at d) #[])(j:∀w w' es a,D w w' es->(∀e∈a,e∈es)->D w w' a)(b:JW D J.st):
 aB P (h==0) D (fP P Post K Q Shun St E J L nb h n dl):=by
 refine⟨λg w d x u O T q a ds Y t s p n h=>x u O T q a ds Y t s p n (i (w.at d) w.drawn h),l,j,λg w g a=>?_⟩;refine fP.go G f g i λd f g=>?_;let⟨g',w',es,f1,f2,f3,f4⟩:=a d;let⟨r,a⟩:=o _ _ _ f2;refine⟨g',w',es,λm=>f4 _ _ b (G.row _ f).1,r.keep f,a g,λc V k a=>r.chan c V k a,r.size,λe a=>(r.ev e a).1,?_⟩;rw[deafBehind_still (λe a=>(r.ev e a).2)];exact f3
end
end Go.Proofs.YtobagnjnbmgidabGreatDoor
