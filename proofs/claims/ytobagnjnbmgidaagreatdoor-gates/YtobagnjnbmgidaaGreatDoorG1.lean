import Derived.Conc.LeavingOf
import Derived.RunNT
import Derived.Test.YtobagnjnbmgidaaGreatDoorX8
set_option linter.all false
namespace Go.Proofs.YtobagnjnbmgidaaGreatDoor
open Go.Conc Go.RowKit
open Go.ConcN (sumTo upd sumTo_upd upd_ne upd_same)
variable{z:Addr}{cl:Bool}{cap x:Nat}{v:ay}{y:aW}{r:aP}
variable{Post:qG}{Shun Still:dr}{B h n i dl B' j c L nb:Nat}{Mem J p7:qo}{Inb:Nat->Option Seat}{T u:Trace}{I:jH}{w w' wI:aj}{q O:cm}{main:Bool}{R:Event->Prop}{b:aE}{A:Act}{k:eF}{cs:cW}{E:b9}{rest cc ds:aP}{o:Oper}{Anchor U Q':kr}{D:zx}{st:oX}{Ok V:dw}{St uo:Nat->Loc->Prop}{K':cF}{M M':Nat->Goroutine->Prop}{g':aW}
def Goal(P:aI)(Post:qG)(m:Machine)(T:Trace):Prop:=
 ∃N last o w' t',runNT P (N+1) m T=(.ended o w',t')/\runN P N m=.next last/\step P last=.ended o w'/\Conc.Good P Post last o w' t'
theorem Goal.back{P:aI}{N:Nat}{m d:Machine}{T e:Trace}(h:runNT P N m T=(.next d,e))(g:Goal P Post d e):Goal P Post m T:=by
 obtain⟨M,last,o,w',f,G,F,C,s⟩:=g;have p:runN P N m=.next d:=by rw[<-runNT_fst P N m T,h]
 exact⟨N+M,last,o,w',f,by rw[Nat.add_assoc,runNT_add,h];exact G,by rw[runN_add,p];exact F,C,s⟩
section
variable{P:aI}{K:cF}{a g:aW}
def At(P:aI)(Post:qG)(K:cF)(Shun Still:dr)(Mem:qo)(Inb:Nat->Option Seat)(h n:Nat)(g:aW)(w:aj):Prop:=
 ∀(d:Nat)(I:jH)(T:Trace)(q:cm)(sl:rq),I.size=n->I[h]? =some g->R2 P K Shun Still w.heap.size Mem Inb h T I (w.at d) q->Goal P Post (crowd I (w.at d) sl) T
theorem HW(p:∀w d,K w->K (w.at d))(hD:∀w w' es,D w w' es->DR K Shun Still h w w' es)(H:∀w d,D w (w.at d) #[])(hl:∀w w' es s,D w w' es->(∀e∈s,e∈es)->D w w' s)(m:Mem h):aC P (h==0) D (At P Post K Shun Still Mem Inb h n):=by
 have f:∀g w d,At P Post K Shun Still Mem Inb h n g w->At P Post K Shun Still Mem Inb h n g (w.at d):=λg w d x X=>x X
 refine⟨f,H,hl,λg w Z G=>?_⟩;intro d I T q sl hn hg C;have W:Walk P (h==0) D (At P Post K Shun Still Mem Inb h n) g w:=(xF H hl _).step g w Z λd=>(G d).mono λ_ _ x=>.stop λX=>f _ _ _ x
 obtain⟨N,S,a',w',F,T',Y,h1,h2,h3,h4,h5,h6⟩:=hold p hD (.inl m) ((xF H hl _).at' _ _ d W) I T q sl hg C;exact Goal.back h1 (h4 w'.drawn S T' Y F (h2.trans hn) h3 h5)
theorem AA{d:dr}{s:Seat}(N:∀l,Still l->d l){g:aW}(x:Sits P main K Still B s n g):Sits P main K d B s n g:=by
 have ev:∀e,EvC Still B e->EvC d B e:=λe ⟨a,e1,e2,e3⟩=>⟨a,e1,N _ e2,e3⟩
 have at':∀g f,AtIn P main K Still B s g f->AtIn P main K d B s g f:=λg f ⟨Z,Y,X,W,S,es,C,p⟩=>⟨Z,Y,X,W,S,es,λe F=>ev e (C e F),p⟩
 rcases x with ⟨k,w,e,H⟩|⟨e,m,f,e2,G⟩
 .exact .inl ⟨k,w,e,lY (λ_ _ _ ⟨d1,d2⟩=>⟨d1,λe F=>ev e (d2 e F)⟩) (λ_ _ ⟨f,y⟩=>⟨f,at' _ _ y⟩) H⟩
 .exact .inr ⟨e,m,f,e2,at' _ _ G⟩
def UH(B:Nat)(l:Loc):Prop:=∃a:Addr,l=.cell a/\B<=a.block
theorem uE{t:Trace}{x:Touch}(F:∀op∈t,op.act.low B)(C:touchAt t i=some x)(G:UH B x.loc):False:=by
 obtain⟨op,p,d⟩:=touch_of C;have hl:=F op (EH p);obtain⟨ad,e1,e2⟩:=G;obtain⟨g,fn,pos,act⟩:=op;cases act with
 |access e=>
  obtain⟨loc,wr,s⟩:=e;simp only[MemAct.touch?]at d;simp only[MemAct.low]at hl
  have f:x.loc=loc:=by
   revert d
   cases loc<;>cases s<;>simp<;>intro d<;>rw[<-d]
  rw[f]at e1;subst e1;simp only[Loc.low]at hl;omega
 |mark m=>
  cases m<;>simp only[MemAct.touch?,reduceCtorEq,Option.some.injEq]at d
  all_goals
   subst d;simp only[MemAct.low]at hl;simp only[Loc.cell.injEq]at e1;subst e1;omega
 |_=>simp[MemAct.touch?]at d
end
section
variable{P:aI}{K:cF}{a g:aW}
theorem R2.grow{qn d:dr}(C:R2 P K Shun Still B Mem Inb h T I w q)(W:∀l,Still l->d l)(h2:∀l,d l->Still l\/UH B l)(h3:∀l,Shun l->qn l)(h4:∀l,qn l->Shun l\/UH B l):R2 P K qn d B Mem Inb h T I w q:=by
 have H:=C.past.seen;refine⟨λi g hi N=>?_,C.chans,C.wf,C.live,C.inj,C.above,C.mem,C.nomem,C.lo,⟨C.past.clean,λi x f hm=>?_,λi x f hw hS g N=>?_,C.past.hears,H⟩,C.keep⟩
 .have:=C.idle i g hi N
  cases e:Inb i with
  |none=>rw[e]at this;exact this
  |some s=>rw[e]at this;exact AA W this
 .refine(C.past.known i x f hm).imp (fun⟨F,p,m⟩=>⟨F,p.imp id fun⟨b,y1,Z,Y,X⟩=>⟨b,y1,Z,h3 _ Y,X⟩,λb S G=>?_⟩) fun⟨F,p,m⟩=>⟨F,W _ p,m⟩
  rcases h4 _ G with z|z
  .exact m b S z
  .exact(uE H S z).elim
 .rcases h2 _ hS with z|z
  .exact C.past.wrote i x f hw z g N
  .exact(uE H f z).elim
theorem Dk(C:zf P K Shun B Mem T I w q)(X:Deaf T 0=0):Past Shun B T:=by
 have hk:∀i x,touchAt T i=some x->x.loc.isMemory=true->Acc Shun 0 T i:=λi x d m=>(C.past.known i x d m).elim id λz=>z.2.1.elim
 refine⟨C.past.clean,λi x d m=>?_,λi g N F hc=>?_,X,C.past.seen⟩
 .refine(hk i x d m).2.1.imp id fun⟨b,e,p,W,_⟩=>?_
  have:b=x:=by rw[d]at e;exact(Option.some.inj e).symm
  subst this;exact⟨W,p⟩
 .obtain⟨x,d,m,s⟩:=hc
  rcases(hk i x d m).2.1 with ⟨j,z,H,f,G⟩|⟨b,e,p,_,S⟩
  .rcases G with rfl|G
   .rw[g?_of H,f]at N
    exact absurd (Option.some.inj N).symm F
   .exact⟨j,by rw[g?_of H,f],G⟩
  .have:b=x:=by rw[show touchAt T i=some x from d]at e;exact(Option.some.inj e).symm
   subst this;rcases s with z|z
   .exact absurd p z
   .exact absurd z S
theorem vE(C:zf P K Shun B Mem T I w q):Leavers P T I q:=⟨λi g e d=>(show 0<i/\QuitsD P (q i) (Deaf T i) g from C.idle i g (λz=>by omega) d).2,C.above⟩
theorem At.ends{es:dL}(N:a.status=.running)(m:Mem 0)(f:∀d,stepG P true a (w.at d)=.ended (.done v) (w.at d) es)(p:∀e∈es,EvL Shun w.heap.size e)(S:∀d,Post v (w.at d)):At P Post K Shun (λ_=>False) Mem (λ_=>none) 0 n a w:=by
 intro d I T q sl H W C;exact beside_ends (D:=λ_ _ es=>es=#[]) (Shun:=Shun) (B:=w.heap.size) (n:=0) (q:=q) (λ_ _ es s=>by subst s;intro e s;simp at s) W (vE C) (Dk C (C.past.hears 0 m)) (λF ⟨G,e⟩=>by subst e;exact⟨N,v,es,f G,p,S G⟩)
theorem AD(F:K w)(C:∀x,Mem x->x=0)(G:At P Post K Shun (λ_=>False) Mem (λ_=>none) 0 1 a w):Goal P Post (solo a w) #[]:=by
 have e:solo a w=crowd #[a] w none:=rfl;rw[e];refine G w.drawn #[a] #[] (λ_=>0) none rfl rfl ⟨λi g m p=>?_,λi s c _ e=>(by cases e),λi s e=>(by cases e),λ_ _ z=>z.elim,λi N s H c e=>(by cases e),λj hj=>?_,λi s e=>(by cases e),λi m=>.inr (C i m),λi s _ e=>(by cases e),⟨λsaid ⟨i,j,x⟩=>?_,λi x d=>?_,λi x d=>?_,λg _=>rfl,λop f=>by simp at f⟩,F⟩
 .rcases i with _|i
  .exact absurd rfl m
  .simp at p
 .rfl
 .obtain⟨_,⟨x,y,d,_⟩,_⟩:=x
  simp[Trace.act?]at d
 .simp[touchAt,Trace.act?]at d
 .simp[touchAt,Trace.act?]at d
end
section
variable{P:aI}{K:cF}{a g:aW}
theorem At.keep(p:∀d,K' (w.at d))(f:At P Post K' Shun (λ_=>False) Mem (λ_=>none) 0 n a w):At P Post K Shun (λ_=>False) Mem (λ_=>none) 0 n a w:=
 λd I T q sl e m C=>f d I T q sl e m (u6 C (p d))
theorem iL{a:Addr}(h:c≠a.block)(cap:Nat)(buf:fW)(cl:Bool)(x y:Nat)(d:Bool):(w.setChan c cap buf cl x y d).cell? a=w.cell? a/\(w.setChan c cap buf cl x y d).frozen? a=w.frozen? a:=by
 have e:=heap_setChan_ne w cap buf cl x y d h
 constructor
 .unfold World.cell?;rw[e]
 .unfold World.frozen?;rw[e]
theorem HA(m:∀ad,Still (.cell ad)->¬Ok ad true)(p:∀ad wr,Shun (.cell ad)->¬Ok ad wr)(G:∀w w' es,DX Ok w w' es->K w->K w')(w w':aj)(es:dL)(D:DX Ok w w' es):DR K Shun Still h w w' es:=by
 refine⟨G _ _ _ D,λc cap k hc=>by rw[hc];exact D.obj c _ hc (λ_ _ _ z=>by cases z),D.size,λe F=>?_⟩;rcases D.ev e F with ⟨ad,e1,_,C,H⟩|rfl
 .obtain⟨loc,wr,s⟩:=e
  simp only at e1
  subst e1;refine⟨⟨λx f=>?_,H⟩,by simp,by simp⟩
  have d:(⟨.cell ad,wr,if s then .atomic else .plain⟩:Touch)=x:=by
   cases s<;>simpa [MemAct.ofEvent,MemAct.touch?]using f
  subst d;refine⟨λz=>?_,λz=>absurd C (p ad wr z)⟩;cases wr
  .rfl
  .exact absurd C (m ad z)
 .refine⟨⟨λx f=>?_,?_⟩,by simp[noRoomEvent],by simp[noRoomEvent]⟩
  .simp[noRoomEvent,MemAct.ofEvent,MemAct.touch?]at f
  .simp[noRoomEvent,MemAct.ofEvent,MemAct.low]
end
structure QF(P:aI)(main:Bool)(K:cF)(R:Event->Prop)(Ψ:kr):Prop where
 step:∀g g',g.status=.running->(∀w,K w->∃es,stepG P main g w=.go g' w es/\∀e∈es,R e)->Ψ g'->Ψ g
section
variable{P:aI}{K:cF}{Ψ:kr}{a:Act}
theorem QF.ctl(F:QF P main K R Ψ){m d:aE}{f:cW}(h:∀w,stepG P main (G m cs) w=.go (G d f) w #[])(hk:Ψ (G d f)):Ψ (G m cs):=
 F.step _ _ rfl (λw _=>⟨#[],h w,λe p=>by simp at p⟩) hk
theorem QF.op(F:QF P main K R Ψ)(ho:E[i]? =some o)(m:Region.wanted o (yielded E a.tmps)=true)(hk:b.kind≠.early)(C:∀w,K w->∀e∈(execOp a.eval o).events P w #[],R e)(h:∀w,K w->uponK o a (λa' w'=>w'=w/\a'=A) ((execOp a.eval o).run P w))(p:Ψ (G (b.at A (.inRegion E rest::k)) cs)):Ψ (G (b.at a (.inRegion E (i::rest)::k)) cs):=by
 refine F.step _ _ rfl (λw f=>⟨listed P b.fn a o w,?_,λe s=>C w f e (ME s)⟩) p;have:=goes_oper_k (P:=P) (main:=main) (k:=k) (cs:=cs) (rest:=rest) (K:=λg' w' es=>g'=G (b.at A (.inRegion E rest::k)) cs/\w'=w/\es=listed P b.fn a o w) ho m hk (λK' d=>uponK_mono (λa' w' x=>by obtain⟨rfl,rfl⟩:=x;exact d _ _ ⟨rfl,rfl,rfl⟩) (h w f))
 revert this
 cases stepG P main (G (b.at a (.inRegion E (i::rest)::k)) cs) w<;>intro this
 case go g' w' es=>rw[goes_go]at this;obtain⟨rfl,rfl,rfl⟩:=this;rfl
 all_goals exact this.elim
theorem QF.Ac(F:QF P main K R Ψ)(ho:E[i]? =some o)(f:Region.wanted o (yielded E a.tmps)=true)(hk:b.kind≠.early)(p:∀w,K w->(execOp a.eval o).events P w #[]=#[])(h:∀w,K w->uponK o a (λa' w'=>w'=w/\a'=A) ((execOp a.eval o).run P w))(m:Ψ (G (b.at A (.inRegion E rest::k)) cs)):Ψ (G (b.at a (.inRegion E (i::rest)::k)) cs):=
 F.op ho f hk (λw s e d=>by rw[p w s]at d;simp at d) h m
theorem QF.unwanted(F:QF P main K R Ψ)(ho:E[i]? =some o)(d:Region.wanted o (yielded E a.tmps)=false)(h:Ψ (G (b.at (a.put o.dst undef) (.inRegion E rest::k)) cs)):Ψ (G (b.at a (.inRegion E (i::rest)::k)) cs):=
 F.ctl (λ_=>stepG_unwanted ho d) h
theorem QF.oq(F:QF P main K R Ψ)(ho:E[i]? =some o)(d:Region.wanted o (yielded E a.tmps)=true)(hk:late b=true)(f:∀w,K w->(execOp a.eval o).events P w #[]=#[])(h:∀w,K w->uponK o a (λa' w'=>w'=w/\a'=A) ((execOp a.eval o).run P w))(e:Ψ (G (b.at A (.inRegion E rest::k)) cs)):Ψ (G (b.at a (.inRegion E (i::rest)::k)) cs):=F.Ac ho d (pK hk) f h e
theorem QF.re(F:QF P main K R Ψ)(h:Ψ (G (b.at a (k)) cs)):Ψ (G (b.at a (.inRegion E []::k)) cs):=F.ctl (λ_=>stepG_region_end) h
theorem QF.sq(F:QF P main K R Ψ){x y:Code}(h:Ψ (G (b.at a (.code x::.code y::k)) cs)):Ψ (G (b.at a (.code (.seq x y)::k)) cs):=F.ctl (λ_=>stepG_seq) h
theorem QF.rr(F:QF P main K R Ψ){id:Nat}{l:List Oper}(h:Ψ (G (b.at a (.inRegion l.toArray (rg l 0)::k)) cs)):Ψ (G (b.at a (.code (.region id l.toArray false)::k)) cs):=F.ctl (λ_=>stepG_region) (by rw[xU];exact h)
theorem QF.sr(F:QF P main K R Ψ){id:Nat}{l:List Oper}{y:Code}(h:Ψ (G (b.at a (.inRegion l.toArray (rg l 0)::.code y::k)) cs)):Ψ (G (b.at a (.code (.seq (.region id l.toArray false) y)::k)) cs):=F.sq (F.rr h)
theorem QF.es(F:QF P main K R Ψ){x y:Code}(h:Ψ (G (b.at a (.code x::.code y::k)) cs)):Ψ (G (b.at a (.inRegion E []::.code (.seq x y)::k)) cs):=F.re (F.sq h)
theorem QF.er(F:QF P main K R Ψ){id:Nat}{l:List Oper}(h:Ψ (G (b.at a (.inRegion l.toArray (rg l 0)::k)) cs)):Ψ (G (b.at a (.inRegion E []::.code (.region id l.toArray false)::k)) cs):=F.re (F.rr h)
theorem QF.YG(F:QF P main K R Ψ){id:Nat}{l:List Oper}{y:Code}(h:Ψ (G (b.at a (.inRegion l.toArray (rg l 0)::.code y::k)) cs)):Ψ (G (b.at a (.inRegion E []::.code (.seq (.region id l.toArray false) y)::k)) cs):=F.re (F.sr h)
theorem QF.aF(F:QF P main K R Ψ)(e:Ψ (G (b.at A (.inRegion E rest::k)) cs))(ho:E[i]? =some o:=by exact rfl)(d:Region.wanted o (yielded E a.tmps)=true:=by exact rfl)(hk:late b=true:=by exact rfl)(f:∀w,K w->(execOp a.eval o).events P w #[]=#[]:=by simp[go_sem])(h:∀w,K w->uponK o a (λa' w'=>w'=w/\a'=A) ((execOp a.eval o).run P w):=by intro w d;go_simp;first|exact⟨rfl,rfl⟩|exact rfl):Ψ (G (b.at a (.inRegion E (i::rest)::k)) cs):=F.oq ho d hk f h e
theorem QF.cU(F:QF P main K R Ψ)(h:Ψ (G (b.at (a.put o.dst undef) (.inRegion E rest::k)) cs))(ho:E[i]? =some o:=by exact rfl)(d:Region.wanted o (yielded E a.tmps)=false:=by exact rfl):Ψ (G (b.at a (.inRegion E (i::rest)::k)) cs):=F.unwanted ho d h
theorem QF.zW(F:QF P main K R Ψ){id:Nat}{l:List Oper}(h:Ψ (G (b.at a (.inRegion l.toArray r::k)) cs))(d:rg l 0=r:=by simp only[rg,Nat.reduceAdd];exact rfl):Ψ (G (b.at a (.code (.region id l.toArray false)::k)) cs):=F.rr (d▸h)
theorem QF.cw(F:QF P main K R Ψ){id:Nat}{l:List Oper}{y:Code}(h:Ψ (G (b.at a (.inRegion l.toArray r::.code y::k)) cs))(d:rg l 0=r:=by simp only[rg,Nat.reduceAdd];exact rfl):Ψ (G (b.at a (.code (.seq (.region id l.toArray false) y)::k)) cs):=F.sr (d▸h)
theorem QF.D3(F:QF P main K R Ψ){id:Nat}{l:List Oper}(h:Ψ (G (b.at a (.inRegion l.toArray r::k)) cs))(d:rg l 0=r:=by simp only[rg,Nat.reduceAdd];exact rfl):Ψ (G (b.at a (.inRegion E []::.code (.region id l.toArray false)::k)) cs):=F.er (d▸h)
theorem QF.dh(F:QF P main K R Ψ){id:Nat}{l:List Oper}{y:Code}(h:Ψ (G (b.at a (.inRegion l.toArray r::.code y::k)) cs))(d:rg l 0=r:=by simp only[rg,Nat.reduceAdd];exact rfl):Ψ (G (b.at a (.inRegion E []::.code (.seq (.region id l.toArray false) y)::k)) cs):=F.YG (d▸h)
theorem QF.cf(F:QF P main K R Ψ){c:Operand}{x y:Code}(e:a.eval c=.bool false)(h:Ψ (G (b.at a (.code y::k)) cs)):Ψ (G (b.at a (.code (.cond c x y)::k)) cs):=F.ctl (λ_=>stepG_cond (t:=false) e) h
theorem QF.ct(F:QF P main K R Ψ){c:Operand}{x y:Code}(e:a.eval c=.bool true)(h:Ψ (G (b.at a (.code x::k)) cs)):Ψ (G (b.at a (.code (.cond c x y)::k)) cs):=F.ctl (λ_=>stepG_cond (t:=true) e) h
theorem QF.sk(F:QF P main K R Ψ)(h:Ψ (G (b.at a (k)) cs)):Ψ (G (b.at a (.code .skip::k)) cs):=F.ctl (λ_=>stepG_skip) h
theorem QF.bl(F:QF P main K R Ψ){id:Nat}{c:Code}(h:Ψ (G (b.at a (.code c::.inBlock id::k)) cs)):Ψ (G (b.at a (.code (.block id c)::k)) cs):=F.ctl (λ_=>stepG_block) h
theorem QF.ib(F:QF P main K R Ψ){id:Nat}(h:Ψ (G (b.at a (k)) cs)):Ψ (G (b.at a (.inBlock id::k)) cs):=F.ctl (λ_=>stepG_inBlock) h
theorem QF.enter(F:QF P main K R Ψ){f:FuncId}{args:fW}(ho:E[i]? =some o)(d:Region.wanted o (yielded E a.tmps)=true)(hk:b.kind≠.early)(e:∀w,(execOp a.eval o).run P w=.ok (.enter f args) w)(m:∀w,(execOp a.eval o).events P w #[]=#[])(h:Ψ (G (Frame.enter P f args .normal) (b.at a (.inRegion E (i::rest)::k)::cs))):Ψ (G (b.at a (.inRegion E (i::rest)::k)) cs):=
 F.ctl (λw=>by rw[stepG_enter ho d hk (e w),listed_nil (m w)]) h
theorem QF.bJ(F:QF P main K R Ψ){fn:Func}{todo:eF}{c:aE}(e:b.kind=.normal)(m:a.defers=[])(f:P.funcs[b.fn]? =some fn)(d:ResultsC P fn a.tmps v)(h:Ψ (G (c.finish v) cs)):Ψ (G {b.at a todo with mode:=.returning} (c::cs)):=
 F.ctl (λw=>by rw[stepG_leave e m f (d _).1 (d _).2]) h
end
section
variable{P:aI}{K:cF}{Gp:qE}
theorem om(d:Nat):QF P false (λ_=>True) (λ_=>False) (λg=>∃n,QuitsD P n d g):=
 ⟨λg g' m h ⟨n,p⟩=>⟨n+1,.inr ⟨m,g',#[],λe f=>by simp at f,λw=>by obtain⟨es,e1,e2⟩:=h w trivial;rw[e1,VK.2 λe f=>e2 e f],p⟩⟩⟩
theorem qL(main:Bool)(s:Seat)(w:aj):QF P main K (EvC Still B) (λg=>∃n,Goes P main (RK K) (DS Still B) (λg _=>∃e,AtIn P main K Still B s g e) n g w):=
 ⟨λg g' m h ⟨n,p⟩=>⟨n+1,.inr ⟨m,λd f=>by obtain⟨es,e1,e2⟩:=h d f;rw[e1];exact⟨⟨rfl,e2⟩,Goes.rely (λ_ _ _ _ x=>x) p f⟩⟩⟩⟩
end
def KL(l:oX)(cc:aP)(w:aj):Prop:=(∀p∈l,w.cell? p.1=some p.2)/\∀c∈cc,∃k,w.heap[c]? =some (.chan 0 #[] false k k false)
def wO(l:oX)(x:Loc):Prop:=∃p∈l,x=.cell p.1
section
variable{l:oX}{es:dL}
theorem LD(e:∀p∈l,¬Ok p.1 true):∀w w' es,DX Ok w w' es->KL l cc w->KL l cc w':=λw w' es D h=>
 ⟨λp d=>by rw[(D.cell p.1 (e p d) (au (h.1 p d))).1];exact h.1 p d,λc hc=>by obtain⟨k,hk⟩:=h.2 c hc;exact⟨k,D.obj c _ hk (λ_ _ _ z=>by cases z)⟩⟩
theorem JD{k:Nat}(f:∀p∈l,c≠p.1.block)(hc:c∈cc)(h:KL l cc w):KL l cc (w.setChan c 0 #[] false k k false):=by
 refine⟨λp C=>by rw[(iL (f p C) ..).1];exact h.1 p C,λF m=>?_⟩
 by_cases e:c=F
 .subst e
  obtain⟨s,d⟩:=h.2 c hc;exact⟨k,heap_setChan_self w d _ _ _ _ _ _⟩
 .obtain⟨s,d⟩:=h.2 F m
  exact⟨s,by rw[heap_setChan_ne w _ _ _ _ _ _ e];exact d⟩
theorem Gn{e:oX}{d:aP}(s:∀p∈e,p∈l)(m:∀c∈d,c∈cc)(h:KL l cc w):KL e d w:=⟨λp f=>h.1 p (s p f),λc hc=>h.2 c (m c hc)⟩
theorem vY{a:Addr}(e:w.cell? a=some v)(h:KL l cc w):KL ((a,v)::l) cc w:=⟨λp d=>by rcases ak.1 d with rfl|d;exact e;exact h.1 p d,h.2⟩
theorem vB{x:Loc}(h:wO l x):x.isMemory=true:=by obtain⟨p,_,rfl⟩:=h;rfl
end
section
variable{P:aI}{Ψ:gi}{K:cF}
abbrev CF(P:aI)(main:Bool)(U:kr):Prop:=QF P main (λ_=>True) (λ_=>False) U
theorem sQ(F:aC P main D Ψ)(w:aj):CF P main (λg=>Ψ g w):=
 ⟨λg g' f h m=>F.step g w f λd=>by
  have e:∀w,stepG P main g w=.go g' w #[]:=λw=>by
   obtain⟨es,e1,e2⟩:=h w trivial;rw[e1,VK.2 λe p=>e2 e p]
  exact⟨_,_,_,e _,F.idle _ _,F.at' _ _ _ m,λ_ _ _ _=>e _⟩⟩
theorem Um(F:QF P main K R U):CF P main U:=⟨λg g' d h f=>F.step g g' d (λw _=>by obtain⟨es,e1,e2⟩:=h w trivial;exact⟨es,e1,λe m=>(e2 e m).elim⟩) f⟩
end
section
variable{P:aI}{K:cF}{a g:aW}
theorem At.assume(e:∀w d,K w->K (w.at d))(H:K w->At P Post K Shun Still Mem Inb h n g w):At P Post K Shun Still Mem Inb h n g w:=
 λd I T q sl f m C=>H (show K w from e (w.at d) w.drawn C.keep) d I T q sl f m C
abbrev nQ(P:aI)(Post:qG)(K:cF)(Shun:dr)(n:Nat):Goroutine->World->Prop:=At P Post K Shun (λ_=>False) (λg=>g=0) (λ_=>none) 0 n
theorem At.TZ{es:dL}(s:a.status=.running)(m:∀d,stepG P true a (w.at d)=.ended (.done v) (w.at d) es)(p:∀e∈es,EvL Shun w.heap.size e)(C:∀d,K (w.at d)->Post v (w.at d))(f:∀w d,K w->K (w.at d)):nQ P Post K Shun n a w:=
 At.assume f λF=>At.ends s rfl m p λd=>C d (f _ _ F)
end
def jl(l:aP)(x:Loc):Prop:=∃A∈l,x=.cell ⟨A,5,none⟩\/x=.cell ⟨A,6,none⟩
theorem Fo{l:aP}{A:Nat}{x:Loc}(h:jl l x):jl (A::l) x:=by obtain⟨B,hB,e⟩:=h;exact⟨B,aO _ hB,e⟩
theorem I5{l:aP}{A:Nat}{x:Loc}(h:jl (A::l) x):jl l x\/UH A x:=by
 obtain⟨B,hB,e⟩:=h;rcases ak.1 hB with rfl|hB
 .exact .inr (e.elim (λe=>⟨_,e,az _⟩) λe=>⟨_,e,az _⟩)
 .exact .inl ⟨B,hB,e⟩
def cJ(N0:Nat)(l:aP)(st:oX)(a:Addr)(wr:Bool):Prop:=¬jl l (.cell a)/\(wr=true->N0<=a.block/\¬wO st (.cell a))
def Old(wI w:aj):Prop:=w.os=wI.os/\w.tape=wI.tape/\w.output=wI.output/\wI.heap.size<=w.heap.size/\∀k,k<wI.heap.size->w.heap[k]? =wI.heap[k]?
theorem Old.below(h:Old wI w):Below wI.heap.size wI w:=⟨h.1,h.2.1,h.2.2.1,h.2.2.2.1,h.2.2.2.2⟩
theorem Old.of(h:Below wI.heap.size wI w):Old wI w:=⟨h.os,h.tape,h.output,h.size,h.block⟩
theorem Old.cell{wI w:aj}(h:Old wI w)(a:Addr)(v:ay)(d:wI.cell? a=some v):w.cell? a=some v:=(h.below.cell (au d)).trans d
section
variable{P:aI}{l:aP}{es:dL}
theorem gF:∀w d,Old wI w->Old wI (w.at d):=λ_ _ h=>h
theorem Ae(d:∀a,Ok a true->wI.heap.size<=a.block):∀w w' es,DX Ok w w' es->Old wI w->Old wI w':=λw w' es D h=>
 ⟨D.rest.1.trans h.1,D.rest.2.1.trans h.2.1,D.rest.2.2.trans h.2.2.1,aT h.2.2.2.1 D.size,λk hk=>(D.blk k (c7 hk h.2.2.2.1) (λa e z=>by have:=d a z;omega)).trans (h.2.2.2.2 k hk)⟩
theorem BS{a:Addr}(d:wI.heap.size<=a.block)(h:Old wI w):Old wI (w.setCell a v):=Old.of (Below.setCell h.below d v)
theorem F5{buf:fW}{y:Nat}{d:Bool}(hc:wI.heap.size<=c)(h:Old wI w):Old wI (w.setChan c cap buf cl x y d):=
 ⟨h.1,h.2.1,h.2.2.1,by simp only[World.setChan,zD];exact h.2.2.2.1,λk hk=>by
  rw[<-h.2.2.2.2 k hk];simp only[World.setChan];exact ku (by omega)⟩
theorem nD(n:Nat):aC P true (DX (cJ wI.heap.size l [])) (nQ P Post (Old wI) (jl l) n):=
 HW (h:=0) gF (HA (λad z=>z.elim) (λad wr z o=>o.1 z) (Ae λa o=>(o.2 rfl).1)) DX.idle wE rfl
end
structure P3(Shun:dr)(St:Nat->Loc->Prop)(J:qo)(B h:Nat)(t:Trace):Prop where
 clean:∀said,¬Race said t
 known:∀i a,touchAt t i=some a->a.loc.isMemory=true->Acc Shun h t i\/(a.write=false/\∃g,t.g? i=some g/\J g/\St g a.loc)
 wrote:∀i a,touchAt t i=some a->a.write=true->∀g,J g->St g a.loc->Knows t g i
 hears:∀g,J g->Deaf t g=0
 seen:∀op∈t,op.act.low B
def nK(St:Nat->Loc->Prop)(J:qo)(l:Loc):Prop:=∃g,J g/\St g l
section
variable{g:Nat}{t:Trace}
theorem P3.mono(H:P3 Shun St J B h t)(hB:B<=B'):P3 Shun St J B' h t:=⟨H.clean,H.known,H.wrote,H.hears,λop d=>MemAct.low_mono hB (H.seen op d)⟩
theorem nY{a a':Touch}(e:touchAt t i=some a)(d:touchAt t i=some a'):a'=a:=by rw[e]at d;exact(Option.some.inj d).symm
theorem fD{fn:FuncId}{pos:String}{es:dL}:∀op∈MemOp.ofEvents g fn pos es,op.g=g:=λop d=>by obtain⟨e,_,rfl⟩:=Go.Conc.mem_ofEvents d;rfl
theorem Aa(H:P3 Shun St J B h t){fn:FuncId}{pos:String}{es:dL}(X:∀e∈es,wQ Shun (nK St J) B h e)(hh:¬J h):P3 Shun St J B h (t++MemOp.ofEvents h fn pos es):=by
 have Z:∀op∈MemOp.ofEvents h fn pos es,op.g=h:=fD
 have C:∀op∈MemOp.ofEvents h fn pos es,∀b,op.act.touch? =some b->(nK St J b.loc->b.write=false)/\(Shun b.loc->b.kind≠.plain/\(b.kind=.said->h=0)):=λop d b hb=>by
  obtain⟨e,he,rfl⟩:=Go.Conc.mem_ofEvents d;exact(X e he).1 b hb
 refine⟨λsaid=>noRace_append (H.clean said) Z λi a N op d b hb hc=>?_,λi a N hm=>?_,λi a N W g s hS=>?_,λg s=>?_,λop d=>?_⟩
 .obtain⟨e1,e2,e3,e4⟩:=hc
  rcases H.known i a N e2 with ⟨_,hk,_⟩|⟨W,g,_,s,hS⟩
  .rcases hk with hk|⟨a',G,Y,WR,_⟩
   .exact hk
   .obtain rfl:=nY N G
    have X4:=(C op d b hb).2 (e1▸WR);rcases e4 with x|x|⟨_,x,_⟩
    .rw[Y]at x;cases x
    .exact absurd x X4.1
    .rw[Y]at x;cases x
  .rcases e3 with x|x
   .rw[W]at x;cases x
   .have:=(C op d b hb).1 ⟨g,s,e1▸hS⟩
    rw[this]at x;cases x
 .obtain⟨x,S,m⟩:=touch_of N
  rcases getElem?_append_cases S with ⟨hi,F⟩|⟨_,f⟩
  .rcases H.known i a (by rw[touchAt_of F];exact m) hm with hk|⟨p,g,s,hl⟩
   .exact .inl (hk.app _)
   .exact .inr ⟨p,g,by rw[g?_old hi];exact s,hl⟩
  .have hk:=knows_own S
   rw[Z x f]at hk;refine .inl ⟨lt_size_of_getElem? S,.inl hk,λa' G hs=>?_⟩;obtain rfl:=nY N G;obtain⟨h1,h2⟩:=(C x f a' m).2 hs;exact⟨h1,λh3=>by rw[g?_of S,Z x f,h2 h3]⟩
 .obtain⟨x,S,m⟩:=touch_of N
  rcases getElem?_append_cases S with ⟨_,F⟩|⟨_,f⟩
  .exact(H.wrote i a (by rw[touchAt_of F];exact m) W g s hS).app _
  .rw[(C x f a m).1 ⟨g,s,hS⟩]at W;cases W
 .rw[Deaf_other t (λz=>hh (by rw[z];exact s)) _ Z];exact H.hears g s
 .rcases nU.1 d with d|d
  .exact H.seen op d
  .obtain⟨e,he,rfl⟩:=Go.Conc.mem_ofEvents d;exact(X e he).2
theorem qM(H:P3 Shun St J B h t)(S:∀op∈u,op.g=g)(G:∀op∈u,∀b,op.act.touch? =some b->b.write=false/\J g/\St g b.loc)(hd:J g->Deaf (t++u) g=Deaf t g)(hl:∀op∈u,op.act.low B):P3 Shun St J B h (t++u):=by
 refine⟨λsaid=>noRace_append (H.clean said) S λi a C op W b hb hc=>?_,λi a C hm=>?_,λi a C N g' d hS=>?_,λg' d=>?_,seen_app H.seen hl⟩
 .obtain⟨Z,hg,Y⟩:=G op W b hb
  rcases hc.2.2.1 with x|x
  .exact H.wrote i a C x g hg (hc.1▸Y)
  .rw[Z]at x;cases x
 .obtain⟨x,F,f⟩:=touch_of C
  rcases getElem?_append_cases F with ⟨hi,s⟩|⟨_,m⟩
  .rcases H.known i a (by rw[touchAt_of s];exact f) hm with hk|⟨p,g',d,X⟩
   .exact .inl (hk.app _)
   .exact .inr ⟨p,g',by rw[g?_old hi];exact d,X⟩
  .exact .inr ⟨(G x m a f).1,g,by rw[g?_of F,S x m],(G x m a f).2⟩
 .obtain⟨x,F,f⟩:=touch_of C
  rcases getElem?_append_cases F with ⟨_,s⟩|⟨_,m⟩
  .exact(H.wrote i a (by rw[touchAt_of s];exact f) N g' d hS).app u
  .rw[(G x m a f).1]at N;cases N
 .by_cases e:g=g'
  .subst e;rw[hd d];exact H.hears g d
  .rw[Deaf_other t e _ S];exact H.hears g' d
theorem FV(H:P3 Shun St J B h t)(N:∀g l,J g->St g l->¬Shun l){fn:FuncId}{pos:String}{es:dL}(G:∀e∈es,(∀x,(MemAct.ofEvent e).touch? =some x->x.kind=.atomic/\Shun x.loc)/\(MemAct.ofEvent e).low B)(hM:¬J c)(hh:ur (Deaf t c) es):
 P3 Shun St J B h (t++MemOp.ofEvents c fn pos es):=by
 have hp:PastG (nK St J) (λ_=>False) J B (Acc Shun h t) t:=⟨H.clean,λi a F X=>(H.known i a F X).imp id fun⟨p,g,d,W,hl⟩=>⟨p,⟨g,W,hl⟩,g,d,W⟩,λ_ _ _ _ _ _ z=>z.elim,λ_ z=>z.elim,H.seen⟩;have C:=z8 (c:=c) (fn:=fn) (pos:=pos) hp (λl ⟨g,d,hl⟩=>N g l d hl) G (λz=>z) hh;have hu:∀op∈MemOp.ofEvents c fn pos es,op.g=c:=fD
 have Z:∀op∈MemOp.ofEvents c fn pos es,∀b,op.act.touch? =some b->b.kind=.atomic/\Shun b.loc:=λop Y b hb=>by
  obtain⟨e,he,rfl⟩:=Go.Conc.mem_ofEvents Y;exact(G e he).1 b hb
 refine⟨C.clean,λi a F X=>?_,λi a F hw g d hS=>?_,λg d=>?_,C.seen⟩
 .obtain⟨x,S,f⟩:=touch_of F
  rcases getElem?_append_cases S with ⟨hi,s⟩|⟨_,m⟩
  .rcases H.known i a (by rw[touchAt_of s];exact f) X with hk|⟨p,g,d,hl⟩
   .exact .inl (hk.app _)
   .exact .inr ⟨p,g,by rw[g?_old hi];exact d,hl⟩
  .refine(C.known i a F X).imp id fun⟨_,_,g,d,W⟩=>?_
   rw[g?_of S,hu x m]at d;obtain rfl:=Option.some.inj d;exact absurd W hM
 .obtain⟨x,S,f⟩:=touch_of F
  rcases getElem?_append_cases S with ⟨_,s⟩|⟨_,m⟩
  .exact(H.wrote i a (by rw[touchAt_of s];exact f) hw g d hS).app _
  .exact absurd (Z x m a f).2 (N g _ d hS)
 .rw[Deaf_other t (show c≠g from λz=>hM (by rw[z];exact d)) _ hu];exact H.hears g d
theorem BQ(H:P3 Shun St J B h t)(Vw:∀g l,J g->St g l->¬Shun l)(h1:∀g,J g->g≠j->p7 g/\∀l,St g l->uo g l)(h2:∀g,p7 g->(J g/\g≠j/\∀l,uo g l->St g l)\/(g=h/\∀l,uo g l->l.isMemory=true/\¬Shun l))(hn:∀op∈u,op.act.touch? =none)(hl:∀op∈u,op.act.low B)(hD:∀g,p7 g->Deaf (t++u) g=0){p q:Nat}{x y:MemOp}(hp:t.size<=p)(hx:(t++u)[p]? =some x)(N6:x.g=h)(hy:(t++u)[q]? =some y)(Z:y.g=j)(W:HappensBefore (t++u) p q):
 P3 Shun uo p7 B j (t++u):=by
 have pass:∀i,Knows t h i->Knows (t++u) j i:=λi hk=>⟨q,y,hy,Z,.inr ((hk.hb_new hp hx N6).trans W)⟩
 refine⟨λsaid=>noRace_appendMute (H.clean said) hn,λi a Y hm=>?_,λi a Y hw g X hS=>?_,hD,seen_app H.seen hl⟩
 .obtain⟨z,G,d⟩:=touch_of Y
  rcases getElem?_append_cases G with ⟨hi,m⟩|⟨_,s⟩
  .rcases H.known i a (by rw[touchAt_of m];exact d) hm with hk|⟨p',g,X,N,S⟩
   .exact .inl (hk.to (pass i))
   .by_cases e:g=j
    .subst e
     have hk:=knows_own G;rw[show z.g=g from by have:=g?_of m;rw[X]at this;exact(Option.some.inj this).symm]at hk;refine .inl ⟨lt_size_of_getElem? G,.inl hk,λa' f F=>?_⟩;obtain rfl:=nY Y f;exact absurd F (Vw _ _ N S)
    .exact .inr ⟨p',g,by rw[g?_old hi];exact X,(h1 g N e).1,(h1 g N e).2 _ S⟩
  .rw[hn z s]at d;cases d
 .obtain⟨z,G,d⟩:=touch_of Y
  rcases getElem?_append_cases G with ⟨_,m⟩|⟨_,s⟩
  .have f:touchAt t i=some a:=by rw[touchAt_of m];exact d
   rcases h2 g X with ⟨N,_,C⟩|⟨rfl,C⟩
   .exact(H.wrote i a f hw g N (C _ hS)).app u
   .obtain⟨m1,m2⟩:=C _ hS
    rcases H.known i a f m1 with ⟨_,hk|⟨b,hb,_,F,_⟩,_⟩|⟨hf,_⟩
    .exact hk.app u
    .obtain rfl:=nY f hb
     exact absurd F m2
    .rw[hf]at hw;cases hw
  .rw[hn z s]at d;cases d
theorem FW(H:P3 Shun St J B h t)(p:∀g l,J g->St g l->¬Shun l)(X:∀g,J g->g≠j->p7 g/\∀l,St g l->uo g l)(N:∀g,p7 g->(J g/\g≠j/\∀l,uo g l->St g l)\/(g=h/\∀l,uo g l->l.isMemory=true/\¬Shun l))(G:Deaf t h=0)(hj:J j)(f:FuncId)(ph:String)(e:FuncId)(d:String)(k:Nat)(hc:c<B):
 P3 Shun uo p7 B j (t++met h j f ph e d c k 0):=by
 have C:(t++met h j f ph e d c k 0)[t.size]? =some {g:=h,fn:=f,pos:=ph,act:=.send c k}:=by simp[met]
 have s:(t++met h j f ph e d c k 0)[t.size+3]? =some {g:=j,fn:=e,pos:=d,act:=.recvDone c k}:=by simp[met]
 have F:=met_quiet h j f ph e d c k 0;have Z:(t++met h j f ph e d c k 0).deaf h t.size=0:=by rw[deaf_old (az _)];exact G
 have Y:(t++met h j f ph e d c k 0).deaf j (t.size+3)=0:=by rw[deaf_quiet (F j) 3 (by simp[met])];exact H.hears j hj
 refine BQ H p X N (met_mute h j f ph e d c k 0) (λop m=>?_) (λg W=>(Deaf_quiet (F g)).trans ?_) (az _) C rfl s rfl
  (Relation.TransGen.single (.inr ⟨.handOver (act?_of C) (act?_of s),⟨h,g?_of C,Z⟩,⟨j,g?_of s,Y⟩⟩))
 .simp only[met,rK,ak,bB,or_false]at m
  rcases m with rfl|rfl|rfl|rfl<;>exact hc
 .rcases N g W with ⟨S,_⟩|⟨rfl,_⟩
  .exact H.hears g S
  .exact G
theorem yF(m:FuncId)(ph:String)(p:FuncId)(f:String)(g:Nat):∀op∈(#[{g:=h,fn:=m,pos:=ph,act:=.go c},{g:=c,fn:=p,pos:=f,act:=.start}]:Trace),∀d,deafStep g d op=d:=by
 intro op e d;simp only[rK,ak,bB,or_false]at e;rcases e with rfl|rfl<;>rfl
theorem Ru(H:P3 Shun St J B h t)(C:∀g l,J g->St g l->¬Shun l)(X:∀g,J g->p7 g/\∀l,St g l->uo g l)(S:∀g,p7 g->(J g/\g≠c/\∀l,uo g l->St g l)\/(g=h/\∀l,uo g l->l.isMemory=true/\¬Shun l))(N:Deaf t h=0)(s:Deaf t c=0)(f:FuncId)(ph:String)(m:FuncId)(e:String):
 P3 Shun uo p7 B c (t++#[{g:=h,fn:=f,pos:=ph,act:=.go c},{g:=c,fn:=m,pos:=e,act:=.start}]):=by
 have F:(t++#[{g:=h,fn:=f,pos:=ph,act:=.go c},{g:=c,fn:=m,pos:=e,act:=.start}])[t.size]? =some {g:=h,fn:=f,pos:=ph,act:=.go c}:=by simp
 have e1:(t++#[{g:=h,fn:=f,pos:=ph,act:=.go c},{g:=c,fn:=m,pos:=e,act:=.start}])[t.size+1]? =some {g:=c,fn:=m,pos:=e,act:=.start}:=by simp
 have G:=yF (h:=h) (c:=c) f ph m e
 refine BQ H C (λg p _=>X g p) S (λop d=>?_) (λop d=>?_) (λg p=>(Deaf_quiet (G g)).trans ?_) (az _) F rfl e1 rfl
  (Relation.TransGen.single (.inr ⟨.spawn (act?_of F) (act?_of e1) (g?_of e1),⟨h,g?_of F,by rw[deaf_old (az _)];exact N⟩,⟨c,g?_of e1,by rw[deaf_quiet (G c) 1 (by simp)];exact s⟩⟩))
 .simp only[rK,ak,bB,or_false]at d
  rcases d with rfl|rfl<;>rfl
 .simp only[rK,ak,bB,or_false]at d
  rcases d with rfl|rfl<;>trivial
 .rcases S g p with ⟨W,_⟩|⟨rfl,_⟩
  .exact H.hears g W
  .exact N
end
def gv(m x:Nat):Int:=((m*4294967296+x:Nat):Int)
section
variable(P:aI)(K:cF)(Gp:qE)
def QN(M:Nat->Goroutine->Prop)(Q:kr)(t:Nat)(g:aW):Prop:=
 (g.status=.running/\∃g',(∀w,K w->stepG P false g w=.go g' w #[])/\M t g')\/
 (t=0/\g.status=.running/\∃g',(∀w,K w->stepG P false g w=.go g' w #[uN (.releaseMerge Gp.st)])/\M 1 g')\/
 (t=1/\g.status=.running/\∃g',(∀w,K w->stepG P false g w=.go g' w #[uN .disable])/\M 2 g')\/
 (t=2/\g.status=.running/\
   (∀m x:Nat,m<9->x<2->(x=0\/0<m)->∃g',(∀w,K w->jd .u64 Gp.st w (gv (m+1) x)->stepG P false g w=.go g' (w.setCell Gp.st (.int .u64 (gv m x))) #[tT Gp.st,Ej Gp.st])/\Q g')/\
   ∃g',(∀w,K w->jd .u64 Gp.st w (gv 1 1)->stepG P false g w=.go g' (w.setCell Gp.st (.int .u64 (gv 0 1))) #[tT Gp.st,Ej Gp.st])/\M 3 g')\/
 (t=3/\g.status=.running/\∃g',(∀w,K w->jd .u64 Gp.st w (gv 0 1)->stepG P false g w=.go g' w #[tT Gp.st])/\M 4 g')\/
 (t=4/\g.status=.running/\∃g',(∀w,K w->jd .u64 Gp.st w (gv 0 1)->stepG P false g w=.go g' (w.setCell Gp.st (.int .u64 (gv 0 0))) #[Ej Gp.st])/\M 5 g')\/
 (t=5/\g.status=.running/\mayWake P g=true/\∃g',g'.status=.running/\(∀w,K w->jd .u32 Gp.se w 0->stepG P false g w=.go g' (w.setCell Gp.se (.int .u32 1)) (semEvents Gp.se))/\Q g')
def DP:Nat->Nat->Goroutine->Prop
 |0,_,_=>False
 |n+1,t,g=>QN P K Gp (DP n) (QuitsD P n 1) t g
end
section
variable{P:aI}{K:cF}{Gp:qE}{Q:kr}{t:Nat}{g:aW}
theorem QN.mono(p:∀w,K' w->K w)(h:∀t g,M t g->M' t g)(x:QN P K Gp M Q t g):QN P K' Gp M' Q t g:=by
 rcases x with ⟨a,g',b,c⟩|⟨a,b,g',c,d⟩|⟨a,b,g',c,d⟩|⟨a,b,e,g',c,d⟩|⟨a,b,g',c,d⟩|⟨a,b,g',c,d⟩|⟨a,b,c,g',d,e,f⟩
 .exact .inl ⟨a,g',λw y=>b w (p w y),h _ _ c⟩
 .exact .inr (.inl ⟨a,b,g',λw y=>c w (p w y),h _ _ d⟩)
 .exact .inr (.inr (.inl ⟨a,b,g',λw y=>c w (p w y),h _ _ d⟩))
 .exact .inr (.inr (.inr (.inl ⟨a,b,λm x H G F=>by obtain⟨N,C,s⟩:=e m x H G F;exact⟨N,λw y=>C w (p w y),s⟩,g',λw y=>c w (p w y),h _ _ d⟩)))
 .exact .inr (.inr (.inr (.inr (.inl ⟨a,b,g',λw y=>c w (p w y),h _ _ d⟩))))
 .exact .inr (.inr (.inr (.inr (.inr (.inl ⟨a,b,g',λw y=>c w (p w y),h _ _ d⟩)))))
 .exact .inr (.inr (.inr (.inr (.inr (.inr ⟨a,b,c,g',d,λw y=>e w (p w y),f⟩)))))
theorem DP.mono(d:∀w,K' w->K w):∀(n t:Nat)(g:aW),DP P K Gp n t g->DP P K' Gp n t g
 |0,_,_,h=>h
 |n+1,_,_,h=>QN.mono d (λt g=>DP.mono d n t g) h
theorem DP.inv(h:DP P K Gp n t g):∃m,n=m+1/\QN P K Gp (DP P K Gp m) (QuitsD P m 1) t g:=by
 cases n with
 |zero=>exact h.elim
 |succ m=>exact⟨m,rfl,h⟩
theorem DP.running(h:DP P K Gp n t g):g.status=.running:=by
 obtain⟨_,_,h⟩:=h.inv;rcases h with ⟨h,_⟩|⟨_,h,_⟩|⟨_,h,_⟩|⟨_,h,_⟩|⟨_,h,_⟩|⟨_,h,_⟩|⟨_,h,_⟩<;>exact h
end
structure C3(P:aI)(K:cF)(Shun:dr)(St:Nat->Loc->Prop)(B:Nat)(Inb:Nat->Option Seat)(Gp:qE)(h:Nat)(ds:aP)(O:cm)(T:Trace)(I:jH)(w:aj)(q:cm):Prop where
 idle:∀i g,i≠h->i∉ds->I[i]? =some g->Idle P K (St i) B T i (q i) g (Inb i)
 dep:∀i,i∈ds->i≠h/\0<i/\Inb i=none/\∃g,I[i]? =some g/\DP P K Gp (q i) (O i) g/\Deaf T i=dC (O i)
 nd:ds.Nodup
 chans:∀i s c,Inb i=some s->s.has c->∃cap k,w.heap[c]? =some (.chan cap #[] false k k false)
 wf:∀i s,Inb i=some s->s.Wf
 inj:∀i i' s s' c,Inb i=some s->Inb i'=some s'->s.has c->s'.has c->i=i'
 above:∀j,I.size<=j->Deaf T j=0
 low:∀i s c,Inb i=some s->s.has c->c<B
 Af:Inb h=none
 ss:∀i l,(Inb i).isSome->St i l->¬Shun l
 past:P3 Shun St (λg=>(Inb g).isSome) B h T
 keep:K w
section
variable{P:aI}{K:cF}{Gp:qE}
theorem AtIn.less{s:Seat}{g d:aW}(p:∀w,K' w->K w)(x:AtIn P main K Still B s g d):AtIn P main K' Still B s g d:=by
 obtain⟨N,H,G,F,C,es,f,e⟩:=x;exact⟨N,H,G,F,C,es,f,λw m=>e w (p w m)⟩
theorem uV{main:Bool}{D:zx}{S p:gi}(f:∀w,K' w->K w)(m:∀g w,S g w->p g w):
 ∀{n:Nat}{g:aW}{w:aj},Goes P main (RK K) D S n g w->Goes P main (RK K') D p n g w
 |0,_,_,h=>λe r=>m _ _ (h e (f _ r))
 |n+1,_,_,h=>h.elim (λx=>.inl λe r=>m _ _ (x e (f _ r))) fun⟨s,x⟩=>.inr ⟨s,λe r=>by
  have:=x e (f _ r)
  revert this
  cases stepG P main _ e<;>simp only[GStep.goes,imp_self]
  exact fun⟨d,y⟩=>⟨d,uV f m y⟩⟩
theorem Sits.less{main:Bool}{Still:dr}{s:Seat}{n:Nat}{g:aW}(p:∀w,K' w->K w)(x:Sits P main K Still B s n g):Sits P main K' Still B s n g:=by
 rcases x with ⟨k,w,e,C⟩|⟨e,f,d,e2,m⟩
 .exact .inl ⟨k,w,e,uV p (λ_ _ ⟨d,y⟩=>⟨d,AtIn.less p y⟩) C⟩
 .exact .inr ⟨e,f,d,e2,AtIn.less p m⟩
theorem C3.less(C:C3 P K Shun St B Inb Gp h ds O T I w q)(f:∀w,K' w->K w)(m:K' w):C3 P K' Shun St B Inb Gp h ds O T I w q:=by
 refine⟨λi g d F p=>?_,λi d=>?_,C.nd,C.chans,C.wf,C.inj,C.above,C.low,C.Af,C.ss,C.past,m⟩
 .have:=C.idle i g d F p
  cases e:Inb i with
  |none=>rw[e]at this;exact this
  |some s=>rw[e]at this;exact Sits.less f this
 .obtain⟨X,W,S,g,N,H,G⟩:=C.dep i d
  exact⟨X,W,S,g,N,DP.mono f _ _ _ H,G⟩
theorem C3.raise(C:C3 P K Shun St B Inb Gp h ds O T I w q)(hB:B<=B'):C3 P K Shun St B' Inb Gp h ds O T I w q:=by
 refine⟨λi g d m f=>?_,C.dep,C.nd,C.chans,C.wf,C.inj,C.above,λi s c e hc=>c7 (C.low i s c e hc) hB,C.Af,C.ss,C.past.mono hB,C.keep⟩;have:=C.idle i g d m f;cases e:Inb i with
 |none=>rw[e]at this;exact this
 |some s=>rw[e]at this;exact Sits.raise hB this
theorem C3.in(C:C3 P K Shun St B Inb Gp h ds O T I w q)(f:K w')(d:∀i s c,Inb i=some s->s.has c->w'.heap[c]? =w.heap[c]?):C3 P K Shun St B Inb Gp h ds O T I w' q:=
 ⟨C.idle,C.dep,C.nd,λi s c e hc=>by obtain⟨cap,k,hk⟩:=C.chans i s c e hc;exact⟨cap,k,(d i s c e hc).trans hk⟩,C.wf,C.inj,C.above,C.low,C.Af,C.ss,C.past,f⟩
theorem C3.fixed(C:C3 P K Shun St B Inb Gp h ds O T I w q)(p:x≠h)(f:I[x]? =some y):y.again w=y:=by
 by_cases m:x∈ds
 .obtain⟨_,_,_,g,G,F,_⟩:=C.dep x m
  rw[G]at f;obtain rfl:=Option.some.inj f;exact again_running _ (.inl F.running)
 have d:=C.idle x y p m f;cases e:Inb x with
 |none=>rw[e]at d;exact again_running _ d.2.status
 |some s=>rw[e]at d;exact Go.Conc.Sits.again C.keep d (C.wf x s e) λc hc=>by obtain⟨cap,k,hk⟩:=C.chans x s c e hc;exact⟨_,_,_,_,_,hk⟩
theorem C3.noSend(C:C3 P K Shun St B Inb Gp h ds O T I w q)(N:x≠h)(m:I[x]? =some y)(c:Nat):offersAt y c true=[]:=by
 by_cases G:x∈ds
 .obtain⟨_,_,_,g,W,S,_⟩:=C.dep x G
  rw[W]at m;obtain rfl:=Option.some.inj m;exact offersAt_of_not_blocked (by rw[S.running];simp) c true
 have d:=C.idle x y N G m;cases e:Inb x with
 |none=>
  rw[e]at d;exact offersAt_of_not_blocked (λf=>by rcases d.2.status with z|z<;>rw[z]at f<;>cases f) c true
 |some s=>
  rw[e]at d;rcases id d with ⟨k,F,X,_⟩|⟨_,_,H,rfl,_⟩
  .have:=(Go.Conc.Sits.status C.keep d).elim (·.1) (λz=>by omega)
   exact offersAt_of_not_blocked (λf=>by rw[this]at f;cases f) c true
  .exact offersAt_parked_sends (λcc p=>by obtain⟨Y,z',rfl⟩:=(C.wf x s e).recvs cc p;rfl) _
theorem C3.NS(C:C3 P K Shun St B Inb Gp h ds O T I w q)(N:x≠h)(p:I[x]? =some y)(hc:∀s,Inb x=some s->¬s.has c):offersAt y c false=[]:=by
 by_cases G:x∈ds
 .obtain⟨_,_,_,g,W,S,_⟩:=C.dep x G
  rw[W]at p;obtain rfl:=Option.some.inj p;exact offersAt_of_not_blocked (by rw[S.running];simp) c false
 have d:=C.idle x y N G p;cases e:Inb x with
 |none=>
  rw[e]at d;exact offersAt_of_not_blocked (λm=>by rcases d.2.status with z|z<;>rw[z]at m<;>cases m) c false
 |some s=>
  rw[e]at d;rcases id d with ⟨k,F,X,_⟩|⟨_,_,H,rfl,_⟩
  .have:=(Go.Conc.Sits.status C.keep d).elim (·.1) (λz=>by omega)
   exact offersAt_of_not_blocked (λm=>by rw[this]at m;cases m) c false
  .refine offersAt_parked_off (λcc f ec=>?_) _
   obtain⟨Y,z',rfl⟩:=(C.wf x s e).recvs cc f;simp only[rcase,Value.chan.injEq,Option.some.injEq]at ec;subst ec;exact hc s e (Seat.has_of_mem f)
theorem C3.awake(C:C3 P K Shun St B Inb Gp h ds O T I w q){a:aW}(G:I[h]? =some a)(p:a.status=.running\/a.status=.blocked)(g:aW)(F:g∈I):Go.Conc.awake g:=by
 obtain⟨i,d⟩:=Array.mem_iff_getElem?.1 F;refine awake_of ?_
 by_cases e:i=h
 .rw[e,G]at d
  cases d
  exact p.imp_right .inl
 by_cases m:i∈ds
 .obtain⟨_,_,_,g',N,H,_⟩:=C.dep i m
  rw[N]at d;obtain rfl:=Option.some.inj d;exact .inl H.running
 have f:=C.idle i g e m d
 revert f
 cases Inb i with
 |none=>exact λz=>z.2.status.imp_right .inr
 |some s=>exact λz=>(Go.Conc.Sits.status C.keep z).imp And.left λy=>.inl y.1
theorem C3.lay(C:C3 P K Shun St B Inb Gp h ds O T I w q){H:Nat}{E:Array MemOp}{f:jH}(Ql:i≠h)(W:i∉ds)(Z:i<I.size)(X:f.size=I.size)(m:∀x,x≠i->f[x]? =I[x]?)(p:f[i]? =some g')(d:∀op∈E,op.g=i)(F:Idle P K (St i) B (T++E) i H g' (Inb i))(Y:P3 Shun St (λg=>(Inb g).isSome) B h (T++E)):C3 P K Shun St B Inb Gp h ds O (T++E) f w (upd q i H):=by
 refine⟨λx y S hd N=>?_,λx S=>?_,C.nd,C.chans,C.wf,C.inj,λj hj=>?_,C.low,C.Af,C.ss,Y,C.keep⟩
 .by_cases e:x=i
  .subst e
   rw[p]at N;obtain rfl:=Option.some.inj N;rw[upd_same];exact F
  .rw[m x e]at N
   rw[upd_ne q H e];have G:=C.idle x y S hd N;cases es:Inb x with
   |none=>rw[es]at G;exact⟨G.1,by rw[Deaf_other T (λz=>e z.symm) E d];exact G.2⟩
   |some s=>rw[es]at G;exact G
 .have e:x≠i:=λz=>W (z▸S)
  obtain⟨h1,h2,h3,g,h4,h5,h6⟩:=C.dep x S;exact⟨h1,h2,h3,g,by rw[m x e];exact h4,by rw[upd_ne q H e];exact h5,by rw[Deaf_other T (λz=>e z.symm) E d];exact h6⟩
 .rw[Deaf_other T (g':=i) (by omega) E d]
  exact C.above j (by omega)
theorem gN{k:Nat}(f:i<n)(e:q i=k+1){d:Nat}(hk:d<=k):sumTo n (upd q i d)<sumTo n q:=by
 have m:sumTo n (upd q i d)+(k+1)=sumTo n q+d:=by
  have:=sumTo_upd q d id f
  simpa [e]using this
 omega
theorem C3.Kx(C:C3 P K Shun St B Inb Gp h ds O T I w q){g:aW}{sl:rq}(hi:I[i]? =some g)(Y:i≠h)(Z:i∉ds)(f:g.status=.running)(hA:∀gx,I[h]? =some gx->gx.again w=gx)(hO:∀s d,Inb i=some s->AtIn P (i==0) K (St i) B s g d->∀gx c,I[h]? =some gx->s.has c->offersAt gx c true=[]):
 ∃(TJ:jH)(E:Array MemOp)(q':cm),runT P (crowd I w sl) i=(.next (crowd TJ w sl),E)/\(∀op∈E,op.g=i)/\TJ.size=I.size/\(∀x,x≠i->TJ[x]? =I[x]?)/\(∀x,x≠i->q' x=q x)/\(∀s,Inb i=some s->q' i=0->∃d,AtIn P (i==0) K (St i) B s g d)/\
   C3 P K Shun St B Inb Gp h ds O (T++E) TJ w q'/\sumTo I.size q'<sumTo I.size q:=by
 have m:i<I.size:=(cH.1 hi).1
 have XI:∀(a':aW)(x:Nat)(y:aW),I[x]? =some y->woken P g a' w y=y:=λa' x y hy=>woken_of_again (by
  by_cases p:x=h
  .subst p;exact hA y hy
  .exact C.fixed p hy)
 have G:∀(g':aW)(x:Nat),x≠i->((I.map (woken P g g' w)).setIfInBounds i g')[x]? =I[x]? :=by
  intro g' x p;rw[ku (λe=>p e.symm),tF];cases e:I[x]? with
  |none=>rfl
  |some y=>simp[XI g' x y e]
 have W:∀(g':aW),((I.map (woken P g g' w)).setIfInBounds i g')[i]? =some g':=λg'=>Db (by simpa using m)
 have hI:=C.idle i g Y Z hi;cases e:Inb i with
 |none=>
  rw[e]at hI;obtain⟨JM,hq⟩:=hI;have Ii:(i==0)=false:=by simp;omega
  cases H:q i with
  |zero=>rw[H]at hq;rw[hq.1]at f;cases f
  |succ k=>
   rw[H]at hq;rcases hq with ⟨hf,_⟩|⟨_,g',es,hm,S,uQ⟩
   .rw[hf]at f;cases f
   refine⟨_,_,upd q i k,runT_crowd_go (sl:=sl) hi (by rw[Ii];exact S w),fD,by simp,G _,λx p=>upd_ne q k p,λs X _=>(by cases X),?_,gN m H (az _)⟩;refine C.lay Y Z m (by simp) (G _) (W _) fD (by rw[e];exact⟨JM,by rw[Deaf_own];exact uQ⟩) ?_;exact qM C.past fD (λop N b hb=>by obtain⟨e,he,rfl⟩:=Go.Conc.mem_ofEvents N;rw[touch_mute (hm e he)]at hb;cases hb) (λX=>by rw[e]at X;cases X) (λop N=>by obtain⟨e,he,rfl⟩:=Go.Conc.mem_ofEvents N;exact low_mute (hm e he) B)
 |some s=>
  rw[e]at hI
  obtain⟨k,Iy,H,hg⟩:∃k Iy,q i=k+1/\Goes P (i==0) (RK K) (DS (St i) B) (λg _=>∃d,AtIn P (i==0) K (St i) B s g d) k g Iy:=by
   rcases hI with x|⟨_,_,d,rfl,_⟩
   .exact x
   .cases f
  have Tk:(∃d,AtIn P (i==0) K (St i) B s g d)\/∃k' g' es,k=k'+1/\stepG P (i==0) g w=.go g' w es/\(∀e∈es,EvC (St i) B e)/\Goes P (i==0) (RK K) (DS (St i) B) (λg _=>∃d,AtIn P (i==0) K (St i) B s g d) k' g' w:=by
   cases k with
   |zero=>exact .inl (hg w C.keep)
   |succ k'=>
    rcases hg with Sg|⟨_,GD⟩
    .exact .inl (Sg w C.keep)
    .have X:=GD w C.keep
     cases hgo:stepG P (i==0) g w with
     |go g' w' es=>
      rw[hgo,goes_go]at X;obtain⟨⟨rfl,F⟩,Yu⟩:=X;exact .inr ⟨k',g',es,rfl,rfl,F,Yu⟩
     |_=>rw[hgo]at X;exact X.elim
  have yx:(Inb i).isSome:=by rw[e];rfl
  have rd:∀{fn:FuncId}{pos:String}{es:dL},(∀e∈es,EvC (St i) B e)->P3 Shun St (λg=>(Inb g).isSome) B h (T++MemOp.ofEvents i fn pos es):=fun{fn pos es} F=>by
   obtain⟨v9,hr,hl,hd⟩:=evC_ops (i:=i) (fn:=fn) (pos:=pos) F;exact qM C.past v9 (λop N b hb=>⟨(hr op N b hb).1,yx,(hr op N b hb).2⟩) (λ_=>hd T) hl
  rcases Tk with ⟨d,J1⟩|⟨k',g',es,rfl,hgo,F,Yu⟩
  .have hO':=hO s d e J1
   obtain⟨_,_,_,_,_,es,F,S⟩:=id J1
   have hw:∀cc∈s.cases,NoWays w (I.setIfInBounds i ph) cc:=by
    intro cc uT;obtain⟨c,z,rfl⟩:=(C.wf i s e).recvs cc uT;have Qd:=Seat.has_of_mem uT;obtain⟨cap,kk,hc⟩:=C.chans i s c e Qd;refine ways_recv_none hc (partners_nil λx y hy=>?_);rcases getElem?_stand I i x y hy with ⟨_,rfl⟩|⟨p,Vd⟩
    .exact offersAt_ph _ _
    .by_cases hS:x=h
     .subst hS;exact hO' y c Vd Qd
     .exact C.noSend hS Vd _
   refine⟨_,_,upd q i 0,crowd_waits (sl:=sl) hi (S w C.keep) hw,fD,by simp,λx p=>ku (λz=>p z.symm),λx p=>upd_ne q 0 p,λs' JL _=>(by obtain rfl:=Option.some.inj JL;exact⟨d,J1⟩),?_,gN m H (iN _)⟩;exact C.lay Y Z m (by simp) (λx p=>ku (λz=>p z.symm)) (Db m) fD (by rw[e];exact .inr ⟨rfl,g,d,rfl,J1⟩) (rd F)
  .refine⟨_,_,upd q i (k'+1),runT_crowd_go (sl:=sl) hi hgo,fD,by simp,G _,λx p=>upd_ne q _ p,λs' _ h0=>(by rw[upd_same]at h0;omega),?_,gN m H (az _)⟩
   exact C.lay Y Z m (by simp) (G _) (W _) fD (by rw[e];exact .inl ⟨k',w,rfl,Yu⟩) (rd F)
theorem C3.own(C:C3 P K Shun St B Inb Gp h ds O T I w q){a a':aW}{es:dL}(Y:I[h]? =some a)(W:K w')(G:∀i s c,Inb i=some s->s.has c->w'.heap[c]? =w.heap[c]?)(F:∀e∈es,wQ Shun (nK St (λg=>(Inb g).isSome)) B h e):
 C3 P K Shun St B Inb Gp h ds O (T++MemOp.ofEvents h a.frame.fn a.frame.place es) ((I.map (woken P a a' w')).setIfInBounds h a') w' q/\((I.map (woken P a a' w')).setIfInBounds h a')[h]? =some a':=by
 have p:h<I.size:=(cH.1 Y).1;have C':=C.in W G
 have f:∀x,x≠h->((I.map (woken P a a' w')).setIfInBounds h a')[x]? =I[x]? :=by
  intro x d;rw[ku (λe=>d e.symm),tF];cases e:I[x]? with
  |none=>rfl
  |some y=>simp[woken_of_again (P:=P) (x:=a) (x':=a') (C'.fixed d e)]
 have H:∀x,x≠h->Deaf (T++MemOp.ofEvents h a.frame.fn a.frame.place es) x=Deaf T x:=λx d=>Deaf_other T (λz=>d z.symm) _ fD
 refine⟨⟨λx y d X S=>?_,λx d=>?_,C.nd,C'.chans,C.wf,C.inj,λj hj=>?_,C.low,C.Af,C.ss,Aa C.past F (by rw[C.Af];simp),W⟩,Db (by simpa using p)⟩
 .rw[f x d]at S
  have m:=C.idle x y d X S;cases e:Inb x with
  |none=>rw[e]at m;exact⟨m.1,by rw[H x d];exact m.2⟩
  |some s=>rw[e]at m;exact m
 .obtain⟨N,h2,h3,g,h4,h5,Z⟩:=C.dep x d
  exact⟨N,h2,h3,g,by rw[f x N];exact h4,h5,by rw[H x N];exact Z⟩
 .simp only[zD,Be]at hj
  rw[H j (by omega)];exact C.above j hj
end
theorem set_set(w:aj)(z:Addr)(u v:ay):(w.setCell z u).setCell z v=w.setCell z v:=by
 refine fB (λr=>?_) rfl rfl rfl rfl;simp only[heap_set]
 by_cases h:z.block=r<;>simp only[h,if_true,if_false]
 cases w.heap[r]? with
 |none=>rfl
 |some o=>
  cases o with
  |cells c e f=>
   simp only[fy,mH]
   by_cases d:z.spot.isSome<;>simp[d]
  |_=>rfl
theorem HP(f:g9 w z.block){buf:fW}{y:Nat}{d:Bool}(h:w.heap[c]? =some (.chan cap buf cl x y d)):(w.setCell z v).heap[c]? =w.heap[c]? :=by
 rw[(oy z v f h (λ_ _ _ e=>by cases e)).2,h]
theorem vI(w:aj)(d:z.block≠c)(v:ay)(cap:Nat)(buf:fW)(cl:Bool)(x y:Nat)(f:Bool):(w.setCell z v).setChan c cap buf cl x y f=(w.setChan c cap buf cl x y f).setCell z v:=by
 refine fB (λr=>?_) rfl rfl rfl rfl;rw[heap_set]
 by_cases e:c=r
 .subst e
  rw[af d];simp only[World.setChan,zF,if_true];simp[World.setCell]
 .rw[heap_setChan_ne _ _ _ _ _ _ _ e,heap_set,heap_setChan_ne _ _ _ _ _ _ _ e]
section
variable{P:aI}{K:cF}{Gp:qE}
theorem C3.Cw(C:C3 P K Shun St B Inb Gp h ds O T I w q){g:aW}{es:dL}(sl:rq)(hi:i∈ds)(X:I[i]? =some g)(DF:stepG P false g w=.go g' w' es)(hK:K w')(gI:∀i s c,Inb i=some s->s.has c->w'.heap[c]? =w.heap[c]?)(pQ:∀e∈es,(∀x,(MemAct.ofEvent e).touch? =some x->x.kind=.atomic/\Shun x.loc)/\(MemAct.ofEvent e).low B)(hh:ur (Deaf T i) es):
 ∃m,runT P (crowd I w sl) i=(.next (crowd m w' sl),MemOp.ofEvents i g.frame.fn g.frame.place es)/\m.size=I.size/\(∀x,x≠i->x≠h->m[x]? =I[x]?)/\(∀y,I[h]? =some y->m[h]? =some (woken P g g' w' y))/\m[i]? =some g'/\
  (∀d S,DP P K Gp d S g'->deafBehind (Deaf T i) es=dC S->C3 P K Shun St B Inb Gp h ds (upd O i S) (T++MemOp.ofEvents i g.frame.fn g.frame.place es) m w' (upd q i d))/\
  (∀d,QuitsD P d (deafBehind (Deaf T i) es) g'->C3 P K Shun St B Inb Gp h (ds.erase i) O (T++MemOp.ofEvents i g.frame.fn g.frame.place es) m w' (upd q i d)):=by
 have kU:i<I.size:=(cH.1 X).1;obtain⟨d1,d2,d3,_⟩:=C.dep i hi;have Ii:(i==0)=false:=by simp;omega
 have C':=C.in hK gI;have hD:∀x,x≠i->Deaf (T++MemOp.ofEvents i g.frame.fn g.frame.place es) x=Deaf T x:=λx F=>Deaf_other T (λz=>F z.symm) _ fD
 have hp:=FV (c:=i) (fn:=g.frame.fn) (pos:=g.frame.place) C.past (λg l hg hl=>C.ss g l hg hl) pQ (by rw[d3];simp) hh
 have p:∀x,x≠i->x≠h->((I.map (woken P g g' w')).setIfInBounds i g')[x]? =I[x]? :=by
  intro x F hxh;rw[ku (λe=>F e.symm),tF];cases e:I[x]? with
  |none=>rfl
  |some y=>simp[woken_of_again (P:=P) (x:=g) (x':=g') (C'.fixed hxh e)]
 have f:((I.map (woken P g g' w')).setIfInBounds i g')[i]? =some g':=Db (by simpa using kU)
 have Y:∀j,((I.map (woken P g g' w')).setIfInBounds i g').size<=j->Deaf (T++MemOp.ofEvents i g.frame.fn g.frame.place es) j=0:=λj hj=>by
  simp only[zD,Be]at hj;rw[hD j (by omega)];exact C.above j hj
 have G:∀(d x:Nat)(y:aW),x≠h->x∉ds->((I.map (woken P g g' w')).setIfInBounds i g')[x]? =some y->Idle P K (St x) B (T++MemOp.ofEvents i g.frame.fn g.frame.place es) x (upd q i d x) y (Inb x):=by
  intro d x y F W H;have N:x≠i:=λz=>W (z▸hi)
  rw[p x N F]at H;rw[upd_ne q d N];have:=C.idle x y F W H;cases e:Inb x with
  |none=>rw[e]at this;exact⟨this.1,by rw[hD x N];exact this.2⟩
  |some s=>rw[e]at this;exact this
 refine⟨_,runT_crowd_go (sl:=sl) X (by rw[Ii];exact DF),by simp,p,λy H=>?_,f,λd S W wX=>?_,λd hq=>?_⟩
 .rw[ku d1,tF,H];rfl
 .refine⟨G d,λx F=>?_,C.nd,C'.chans,C.wf,C.inj,Y,C.low,C.Af,C.ss,hp,hK⟩
  by_cases e:x=i
  .subst e
   exact⟨d1,d2,d3,g',f,by rw[upd_same,upd_same];exact W,by rw[Deaf_own,upd_same];exact wX⟩
  .obtain⟨Z,h2,h3,y,h4,h5,h6⟩:=C.dep x F
   exact⟨Z,h2,h3,y,by rw[p x e Z];exact h4,by rw[upd_ne q d e,upd_ne O S e];exact h5,by rw[hD x e,upd_ne O S e];exact h6⟩
 .refine⟨λx y F W H=>?_,λx F=>?_,C.nd.erase i,C'.chans,C.wf,C.inj,Y,C.low,C.Af,C.ss,hp,hK⟩
  .by_cases e:x=i
   .subst e
    rw[f]at H;obtain rfl:=Option.some.inj H;rw[d3,upd_same];exact⟨d2,by rw[Deaf_own];exact hq⟩
   .exact G d x y F (λz=>W ((List.mem_erase_of_ne e).2 z)) H
  .have e:x≠i:=λz=>by subst z;exact(C.nd.mem_erase_iff.1 F).1 rfl
   obtain⟨Z,h2,h3,y,h4,h5,h6⟩:=C.dep x (Iw F);exact⟨Z,h2,h3,y,by rw[p x e Z];exact h4,by rw[upd_ne q d e];exact h5,by rw[hD x e];exact h6⟩
end
structure GK(K:cF)(Shun:dr)(Gp:qE):Prop where
 at':∀w d,K w->K (w.at d)
 st:∀w v,K (w.setCell Gp.st v)↔K w
 row:∀w,K w->g9 w Gp.st.block/\(∃v,w.cell? Gp.st=some v)/\w.frozen? Gp.st=false
 sh:Shun (.cell Gp.st)
def Wv(Gp:qE)(w:aj)(m:Nat):World:=w.setCell Gp.st (.int .u64 (gv m 0))
section
variable{P:aI}{K Q:cF}{Gp:qE}{a g:aW}
theorem Iz(m:Nat):(Wv Gp w m).heap.size=w.heap.size:=by simp[Wv,World.setCell]
theorem zH(G:GK K Shun Gp)(f:K w)(m:Nat):jd .u64 Gp.st (Wv Gp w m) (gv m 0):=by
 obtain⟨⟨v,d⟩,e⟩:=(G.row w f).2;exact⟨EO _ _ _ d,by rw[Wv,rB];exact e⟩
theorem jz(G:GK K Shun Gp){m:Nat}:K (Wv Gp w m)↔K w:=G.st w _
theorem eE(G:GK K Shun Gp)(d:K w)(m:Nat){k:Nat}(hc:w.heap[c]? =some (.chan cap #[] false k k false)):(Wv Gp w m).heap[c]? =w.heap[c]? :=HP (G.row w d).1 hc
theorem nW(G:GK K Shun Gp)(p:K w)(m:Nat){k:Nat}(hc:(Wv Gp w m).heap[c]? =some (.chan cap #[] false k k false)):w.heap[c]? =some (.chan cap #[] false k k false):=by
 unfold Wv at hc;rw[heap_set]at hc;obtain⟨cs,el,f,d⟩:=(G.row w p).1
 by_cases e:Gp.st.block=c
 .rw[ah e,<-e,d]at hc
  simp[mH]at hc
 .rw[af e]at hc;exact hc
theorem C3.by(G:GK K Shun Gp)(hB:Gp.st.block<B)(hm:L+ds.length<=9)(Z:∀i,i∈ds->O i<=2)(C:C3 P K Shun St B Inb Gp h ds O T I (Wv Gp w (L+ds.length)) q){i:Nat}{sl:rq}(hi:I[i]? =some g)(Ql:i≠h)(sD:g.status=.running)(hA:∀gx m,I[h]? =some gx->gx.again (Wv Gp w m)=gx)(hO:∀s H,Inb i=some s->AtIn P (i==0) K (St i) B s g H->∀gx c,I[h]? =some gx->s.has c->offersAt gx c true=[]):
 ∃d E S f N,runT P (crowd I (Wv Gp w (L+ds.length)) sl) i=(.next (crowd d (Wv Gp w (L+f.length)) sl),E)/\(∀op∈E,op.g=i)/\d.size=I.size/\d[h]? =I[h]? /\(∀x,x≠i->S x=q x)/\(∀s,Inb i=some s->S i=0->∃H,AtIn P (i==0) K (St i) B s g H)/\
  C3 P K Shun St B Inb Gp h f N (T++E) d (Wv Gp w (L+f.length)) S/\(∀i,i∈f->N i<=2)/\f.length<=ds.length/\sumTo I.size S<sumTo I.size q:=by
 have X:K w:=(jz G).1 C.keep
 by_cases F:i∈ds
 .obtain⟨d1,d2,d3,g',d4,d5,d6⟩:=C.dep i F
  rw[hi]at d4;obtain rfl:=Option.some.inj d4;have kU:i<I.size:=(cH.1 hi).1;obtain⟨k,Ss,hD⟩:=d5.inv
  have wk:∀(a':aW)(m:Nat)(d:jH),(∀y,I[h]? =some y->d[h]? =some (woken P g a' (Wv Gp w m) y))->d.size=I.size->d[h]? =I[h]? :=λa' m d hy kI=>by
   cases e:I[h]? with
   |none=>rw[MR]at e ⊢;omega
   |some y=>rw[hy y e,woken_of_again (hA y m e)]
  have still:∀(a':aW)(es:dL)(t':Nat),stepG P false g (Wv Gp w (L+ds.length))=.go a' (Wv Gp w (L+ds.length)) es->(∀e∈es,(∀x,(MemAct.ofEvent e).touch? =some x->x.kind=.atomic/\Shun x.loc)/\(MemAct.ofEvent e).low B)->ur (Deaf T i) es->DP P K Gp k t' a'->deafBehind (Deaf T i) es=dC t'->t'<=2->
   ∃d E S f N,runT P (crowd I (Wv Gp w (L+ds.length)) sl) i=(.next (crowd d (Wv Gp w (L+f.length)) sl),E)/\(∀op∈E,op.g=i)/\d.size=I.size/\d[h]? =I[h]? /\(∀x,x≠i->S x=q x)/\(∀s,Inb i=some s->S i=0->∃H,AtIn P (i==0) K (St i) B s g H)/\
   C3 P K Shun St B Inb Gp h f N (T++E) d (Wv Gp w (L+f.length)) S/\(∀i,i∈f->N i<=2)/\f.length<=ds.length/\sumTo I.size S<sumTo I.size q:=by
   intro a' es t' p pQ SQ hd wX Y;obtain⟨d,e1,e2,e3,e4,e5,e6,_⟩:=C.Cw sl F hi p C.keep (λ_ _ _ _ _=>rfl) pQ SQ;refine⟨d,_,upd q i k,ds,upd O i t',e1,fD,e2,wk a' _ d e4 e2,λx W=>upd_ne q k W,λs hs=>(by rw[d3]at hs;cases hs),e6 k t' hd wX,λx W=>?_,az _,gN kU Ss (az _)⟩
   by_cases e:x=i
   .subst e;rw[upd_same];exact Y
   .rw[upd_ne O t' e];exact Z x W
  have h2:=Z i F;rcases hD with ⟨_,a',p,hn⟩|⟨Y,_,a',p,hn⟩|⟨Y,_,a',p,hn⟩|⟨Y,_,J2,_⟩|⟨Y,_⟩|⟨Y,_⟩|⟨Y,_⟩
  .exact still a' _ _ (p _ C.keep) sN (iJ sN) hn (by rw[d6];rfl) h2
  .exact still a' _ 1 (p _ C.keep) (c9 (jT rfl hB)) (iJ (c9 rfl)) hn (by rw[d6,Y];rfl) (by omega)
  .exact still a' _ 2 (p _ C.keep) (c9 (jT rfl trivial)) (iJ (c9 rfl)) hn (by rw[d6,Y];rfl) (by omega)
  .obtain⟨m,Oo⟩:∃m,L+ds.length=m+1:=⟨L+ds.length-1,by have:=MK F;omega⟩
   obtain⟨a',p,hq⟩:=J2 m 0 (by omega) (by omega) (.inl rfl);have hlen:L+(ds.erase i).length=m:=by rw[List.length_erase_of_mem F];have:=MK F;omega
   have ud:=p _ C.keep (by rw[Oo];exact zH G X _);rw[show(Wv Gp w (L+ds.length)).setCell Gp.st (.int .u64 (gv m 0))=Wv Gp w m from set_set _ _ _ _]at ud;rw[Y]at d6
   obtain⟨d,e1,e2,e3,e4,e5,_,e7⟩:=C.Cw sl F hi ud ((jz G).2 X) (λx s c W hc=>by
    obtain⟨cap,kk,hk⟩:=C.chans x s c W hc;have hb:=nW G X _ hk;rw[eE G X _ hb,eE G X _ hb]) (pV (cG G.sh hB) (cG G.sh hB)) (mA (by rw[d6];decide) (by intro e he;simp at he;rcases he with rfl|rfl<;>simp))
   refine⟨d,_,upd q i k,ds.erase i,O,by rw[hlen];exact e1,fD,e2,wk a' _ d e4 e2,λx W=>upd_ne q k W,λs hs=>(by rw[d3]at hs;cases hs),by rw[hlen];exact e7 k (by rw[d6];exact hq),λx W=>Z x (Iw W),List.length_erase_le,gN kU Ss (az _)⟩
  .omega
  .omega
  .omega
 .obtain⟨d,E,S,e1,e2,e3,e4,e5,e6,e7,e8⟩:=C.Kx (sl:=sl) hi Ql F sD (λgx W=>hA gx _ W) hO
  exact⟨d,E,S,ds,O,e1,e2,e3,e4 h (λz=>Ql z.symm),e5,e6,e7,Z,az _,e8⟩
theorem mo(G:GK K Shun Gp)(hB:Gp.st.block<B)(pO:nb<=9)(hs:a.status=.running):∀(μ:Nat)(I:jH)(T:Trace)(q:cm)(sl:rq)(f:Nat)(ds:aP)(O:cm),sumTo I.size q=μ->I[h]? =some a->L+ds.length<=nb->(∀i,i∈ds->O i<=2)->C3 P K Shun St B Inb Gp h ds O T I (Wv Gp (w.at f) (L+ds.length)) q->
 ∃N F W d p X T' q' H Z,runNT P N (crowd I (Wv Gp (w.at f) (L+ds.length)) sl) T=(.next (crowd F (Wv Gp (w.at W) (L+H.length)) p),T')/\stepT P (crowd F (Wv Gp (w.at W) (L+H.length)) p)=runT P (crowd F (Wv Gp (w.at d) (L+H.length)) X) h/\F.size=I.size/\F[h]? =some a/\L+H.length<=nb/\(∀i,i∈H->Z i<=2)/\
  C3 P K Shun St B Inb Gp h H Z T' F (Wv Gp (w.at d) (L+H.length)) q'/\Deaf T' h=Deaf T h:=by
 intro μ
 induction μ using Nat.strongRecOn with
 |_ μ ih=>
  intro I T q sl f ds O Vb ha hL yy C;obtain⟨i,g,d,X,hi,hg,sE⟩:=crowd_pick (P:=P) (w:=Wv Gp (w.at f) (L+ds.length)) (sl:=sl) (C.awake ha (.inl hs)) ⟨h,a,ha,hs⟩;have S:stepT P (crowd I (Wv Gp (w.at f) (L+ds.length)) sl)=runT P (crowd I (Wv Gp (w.at d) (L+ds.length)) X) i:=sE;have Cd:C3 P K Shun St B Inb Gp h ds O T I (Wv Gp (w.at d) (L+ds.length)) q:=C.in (G.at' _ d C.keep) (λ_ _ _ _ _=>rfl)
  by_cases e:i=h
  .subst e
   exact⟨0,I,f,d,sl,X,T,q,ds,O,rfl,S,rfl,ha,hL,yy,Cd,rfl⟩
  .obtain⟨F,E,q',H,Z,td,v9,kI,GQ,_,_,C',Ob,hle,kU⟩:=Cd.by (sl:=X) G hB (by omega) yy hi e hg (λgx m Y=>by rw[ha]at Y;obtain rfl:=Option.some.inj Y;exact again_running _ (.inl hs))
    (λs Az _ _ gx c Y _=>by rw[ha]at Y;obtain rfl:=Option.some.inj Y;exact offersAt_of_not_blocked (by rw[hs];simp) _ _)
   obtain⟨N,OX,W,YL,p,Q8,T',NA,YM,V5,h1,h2,h3,h4,h5,h6,h7,h8⟩:=ih (sumTo F.size q') (by rw[kI];omega) F _ q' X d H Z rfl (by rw[GQ];exact ha) (by omega) Ob C';exact⟨N+1,OX,W,YL,p,Q8,T',NA,YM,V5,by simp only[runNT,S,td];exact h1,h2,by rw[h3,kI],h4,h5,h6,h7,by rw[h8];exact Deaf_other T e _ v9⟩
def fG(P:aI)(Post:qG)(K Q:cF)(Shun:dr)(St:Nat->Loc->Prop)(Inb:Nat->Option Seat)(Gp:qE)(L nb h n dl:Nat)(g:aW)(w:aj):Prop:=
 ∀(d:Nat)(I:jH)(T:Trace)(q:cm)(sl:rq)(ds:aP)(O:cm),I.size=n->I[h]? =some g->L+ds.length<=nb->(∀i,i∈ds->O i<=2)->Q w->Deaf T h=dl->
   C3 P K Shun St w.heap.size Inb Gp h ds O T I (Wv Gp (w.at d) (L+ds.length)) q->Goal P Post (crowd I (Wv Gp (w.at d) (L+ds.length)) sl) T
theorem fG.go(G:GK K Shun Gp)(pO:nb<=9)(hs:a.status=.running)(hQ:∀w d,Q w->Q (w.at d))(f:∀d,K (w.at d)->Q (w.at d)->∃g' w' es,(∀m,stepG P (h==0) a (Wv Gp (w.at d) m)=.go g' (Wv Gp w' m) es)/\K w'/\Q w'/\(∀(c cap k:Nat),w.heap[c]? =some (Obj.chan cap #[] false k k false)->w'.heap[c]? =w.heap[c]?)/\w.heap.size<=w'.heap.size/\
 (∀e∈es,wQ Shun (nK St (λg=>(Inb g).isSome)) w'.heap.size h e)/\fG P Post K Q Shun St Inb Gp L nb h n (deafBehind dl es) g' w'):fG P Post K Q Shun St Inb Gp L nb h n dl a w:=by
 intro W I T q sl ds O hn ha hL yy hq hd C;have hB:Gp.st.block<w.heap.size:=(G.row _ ((jz G).1 C.keep)).1.lt;obtain⟨N,TJ,T3,d,Y,F,T',q',X,Z,e1,e2,e3,e4,e5,e6,e7,e8⟩:=mo G hB pO hs _ I T q sl W ds O rfl ha hL yy C;have p:K (w.at d):=(jz G).1 e7.keep;obtain⟨g',w',es,s1,s2,s3,s4,s5,s6,s7⟩:=f d p (hQ _ _ hq)
 obtain⟨C',Ay⟩:=(e7.raise s5).own (a':=g') (w':=Wv Gp w' (L+X.length)) e4 ((jz G).2 s2) (λi s c hx hc=>by
  obtain⟨cap,k,hk⟩:=e7.chans i s c hx hc;have hb:=nW G p _ hk;have S:w.heap[c]? =some (.chan cap #[] false k k false):=hb;have H:=s4 c cap k S;rw[eE G p _ hb,eE G s2 _ (H.trans S)];exact H) s6
 refine Goal.back (lO e1 (e2.trans (runT_crowd_go (sl:=F) e4 (s1 _)))) ?_;exact s7 w'.drawn _ _ _ F X Z (by simp[e3,hn]) Ay e5 e6 s3 (by rw[Deaf_own,e8,hd]) C'
theorem KE(G:GK K Shun Gp)(C:nb<=9)(H:∀w d,Q w->Q (w.at d))(Z:∀w w' es,D w w' es->DR K Shun (nK St (λg=>(Inb g).isSome)) h w w' es/\(Q w->Q w'))(Y:∀w d,D w (w.at d) #[])(hl:∀w w' es f,D w w' es->(∀e∈f,e∈es)->D w w' f)(s:H9 D Gp.st):
 aC P (h==0) D (fG P Post K Q Shun St Inb Gp L nb h n dl):=by
 refine⟨λg w d x d' I T q sl ds O h1 h2 h3 h4 h5=>x d' I T q sl ds O h1 h2 h3 h4 (H (w.at d) w.drawn h5),Y,hl,λg w W p=>?_⟩;refine fG.go G C W H λd N X=>?_
 obtain⟨g',w',es,f1,f2,f3,f4⟩:=p d;obtain⟨r,S⟩:=Z _ _ _ f2;refine⟨g',w',es,λm=>f4 _ _ s (G.row _ N).1,r.keep N,S X,λc cap k hc=>r.chan c cap k hc,r.size,λe F=>(r.ev e F).1,?_⟩;rw[deafBehind_still (λe F=>(r.ev e F).2)];exact f3
end
end Go.Proofs.YtobagnjnbmgidaaGreatDoor
