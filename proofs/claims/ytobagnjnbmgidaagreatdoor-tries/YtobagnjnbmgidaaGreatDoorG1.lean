import Derived.Conc.LeavingOf
import Derived.RunNT
import Derived.Test.YtobagnjnbmgidaaGreatDoorX8
set_option linter.all false
namespace Go.Proofs.YtobagnjnbmgidaaGreatDoor
section
open Go.Conc
open Go.ConcN (sumTo upd sumTo_upd upd_ne upd_same)
def Goal(P:Program)(Post:Value→World→Prop)(m:Machine)(T:Trace):Prop:=
 ∃N last o w' t',runNT P (N+1) m T=(.ended o w',t')∧runN P N m=.next last∧step P last=.ended o w'∧Conc.Good P Post last o w' t'
theorem Goal.back{P:Program}{Post:Value→World→Prop}{N:Nat}{m m₁:Machine}{T T₁:Trace}(h:runNT P N m T=(.next m₁,T₁))(g:Goal P Post m₁ T₁):Goal P Post m T:=by
 obtain⟨M,last,o,w',t',h1,h2,h3,h4⟩:=g;have hN:runN P N m=.next m₁:=by rw[←runNT_fst P N m T,h]
 exact⟨N+M,last,o,w',t',by rw[Nat.add_assoc,runNT_add,h];exact h1,by rw[runN_add,hN];exact h2,h3,h4⟩
section
variable{P:Program}{Post:Value→World→Prop}{K:World→Prop}{Shun Still:Loc→Prop}{B:Nat}{Mem:Nat→Prop}{Inb:Nat→Option Seat}{h n:Nat}{T:Trace}{gs:Array Goroutine}{w:World}{q:Nat→Nat}{a g:Goroutine}
def At(P:Program)(Post:Value→World→Prop)(K:World→Prop)(Shun Still:Loc→Prop)(Mem:Nat→Prop)(Inb:Nat→Option Seat)(h n:Nat)(g:Goroutine)(w:World):Prop:=
 ∀(d:Nat)(gs:Array Goroutine)(T:Trace)(q:Nat→Nat)(sl:Option (Nat×Nat)),gs.size=n→gs[h]? =some g→R2 P K Shun Still w.heap.size Mem Inb h T gs (w.at d) q→Goal P Post (crowd gs (w.at d) sl) T
theorem Ie{D:World→World→Array Event→Prop}(yY:∀w d,K w→K (w.at d))(hD:∀w w' es,D w w' es→DR K Shun Still h w w' es)(hi:∀w d,D w (w.at d) #[])(hl:∀w w' es iJ,D w w' es→(∀e∈iJ,e∈es)→D w w' iJ)(Hx:Mem h):aC P (h==0) D (At P Post K Shun Still Mem Inb h n):=by
 have nD:∀g w d,At P Post K Shun Still Mem Inb h n g w→At P Post K Shun Still Mem Inb h n g (w.at d):=fun g w d x d'=>x d'
 refine⟨nD,hi,hl,fun g w hs bN=>?_⟩;intro d gs T q sl hn hg C;have W:Walk P (h==0) D (At P Post K Shun Still Mem Inb h n) g w:=(yh hi hl _).step g w hs fun d=>(bN d).mono fun _ _ x=>.stop fun d'=>nD _ _ _ x
 obtain⟨N,bQ,a',w',fN,T',q',h1,h2,h3,h4,h5,h6⟩:=hold yY hD (.inl Hx) ((yh hi hl _).at' _ _ d W) gs T q sl hg C;exact Goal.back h1 (h4 w'.drawn bQ T' q' fN (h2.trans hn) h3 h5)
theorem A4{main:Bool}{mI:Loc→Prop}{s:Seat}(hS:∀l,Still l→mI l){n:Nat}{g:Goroutine}(x:Sits P main K Still B s n g):Sits P main K mI B s n g:=by
 have ev:∀e,EvC Still B e→EvC mI B e:=fun e ⟨a,e1,e2,e3⟩=>⟨a,e1,hS _ e2,e3⟩
 have at':∀g g₂,AtIn P main K Still B s g g₂→AtIn P main K mI B s g g₂:=fun g g₂ ⟨h1,h2,h3,h4,h5,es,fu,bN⟩=>⟨h1,h2,h3,h4,h5,es,fun e he=>ev e (fu e he),bN⟩
 rcases x with ⟨k,w,e,hg⟩|⟨e,g₀,g₂,e2,nD⟩
 ·exact .inl ⟨k,w,e,mB (fun _ _ _ ⟨d1,d2⟩=>⟨d1,fun e he=>ev e (d2 e he)⟩) (fun _ _ ⟨g₂,y⟩=>⟨g₂,at' _ _ y⟩) hg⟩
 ·exact .inr ⟨e,g₀,g₂,e2,at' _ _ nD⟩
def T0(B:Nat)(l:Loc):Prop:=∃a:Addr,l=.cell a∧B≤a.block
theorem vh{t:Trace}{i:Nat}{x:Touch}(hs:∀op∈t,op.act.low B)(hx:touchAt t i=some x)(hn:T0 B x.loc):False:=by
 obtain⟨op,aQ,ht⟩:=touch_of hx;have hl:=hs op (Array.mem_of_getElem? aQ);obtain⟨ad,e1,e2⟩:=hn;obtain⟨g,fn,pos,act⟩:=op;cases act with
 |access e=>
  obtain⟨loc,wr,sy⟩:=e;simp only[MemAct.touch?] at ht;simp only[MemAct.low] at hl
  have pG:x.loc=loc:=by
   revert ht
   cases loc<;>cases sy<;>simp<;>intro ht<;>rw[←ht]
  rw[pG] at e1;subst e1;simp only[Loc.low] at hl;omega
 |mark m=>
  cases m<;>simp only[MemAct.touch?,reduceCtorEq,Option.some.injEq] at ht
  all_goals
   subst ht;simp only[MemAct.low] at hl;simp only[Loc.cell.injEq] at e1;subst e1;omega
 |_=>simp[MemAct.touch?] at ht
end
end
section
open Go.Conc
open Go.ConcN (sumTo upd sumTo_upd upd_ne upd_same)
section
variable{P:Program}{Post:Value→World→Prop}{K:World→Prop}{Shun Still:Loc→Prop}{B:Nat}{Mem:Nat→Prop}{Inb:Nat→Option Seat}{h n:Nat}{T:Trace}{gs:Array Goroutine}{w:World}{q:Nat→Nat}{a g:Goroutine}
theorem R2.grow{rz mI:Loc→Prop}(C:R2 P K Shun Still B Mem Inb h T gs w q)(h1:∀l,Still l→mI l)(h2:∀l,mI l→Still l∨T0 B l)(h3:∀l,Shun l→rz l)(h4:∀l,rz l→Shun l∨T0 B l):R2 P K rz mI B Mem Inb h T gs w q:=by
 have hs:=C.past.seen;refine⟨fun i g hi hg=>?_,C.chans,C.wf,C.live,C.inj,C.above,C.mem,C.nomem,C.lo,⟨C.past.clean,fun i x hx hm=>?_,fun i x hx hw hS g hg=>?_,C.past.hears,hs⟩,C.keep⟩
 ·have:=C.idle i g hi hg
  cases e:Inb i with
  |none=>rw[e] at this;exact this
  |some s=>rw[e] at this;exact A4 h1 this
 ·refine(C.past.known i x hx hm).imp (fun⟨x1,x2,x3⟩=>⟨x1,x2.imp id fun⟨b,y1,y2,y3,y4⟩=>⟨b,y1,y2,h3 _ y3,y4⟩,fun b hb Cf=>?_⟩) fun⟨x1,x2,x3⟩=>⟨x1,h1 _ x2,x3⟩
  rcases h4 _ Cf with z|z
  ·exact x3 b hb z
  ·exact(vh hs hb z).elim
 ·rcases h2 _ hS with z|z
  ·exact C.past.wrote i x hx hw z g hg
  ·exact(vh hs hx z).elim
theorem DU(C:zB P K Shun B Mem T gs w q)(hd:Deaf T 0=0):Past Shun B T:=by
 have hk:∀i x,touchAt T i=some x→x.loc.isMemory=true→Acc Shun 0 T i:=fun i x hx hm=>(C.past.known i x hx hm).elim id fun z=>z.2.1.elim
 refine⟨C.past.clean,fun i x hx hm=>?_,fun i g hg aN hc=>?_,hd,C.past.seen⟩
 ·refine(hk i x hx hm).2.1.imp id fun⟨b,y1,y2,y3,_⟩=>?_
  have:b=x:=by rw[hx] at y1;exact(Option.some.inj y1).symm
  subst this;exact⟨y3,y2⟩
 ·obtain⟨x,hx,hm,Wz⟩:=hc
  rcases(hk i x hx hm).2.1 with ⟨j,z,hz,dH,hb⟩|⟨b,y1,y2,_,y4⟩
  ·rcases hb with rfl|hb
   ·rw[g?_of hz,dH] at hg
    exact absurd (Option.some.inj hg).symm aN
   ·exact⟨j,by rw[g?_of hz,dH],hb⟩
  ·have:b=x:=by rw[show touchAt T i=some x from hx] at y1;exact(Option.some.inj y1).symm
   subst this;rcases Wz with z|z
   ·exact absurd y2 z
   ·exact absurd z y4
theorem wu(C:zB P K Shun B Mem T gs w q):Leavers P T gs q:=⟨fun i g hi hg=>(show 0<i∧QuitsD P (q i) (Deaf T i) g from C.idle i g (fun z=>by omega) hg).2,C.above⟩
theorem At.ends{v:Value}{es:Array Event}(hs:a.status=.running)(Hx:Mem 0)(gJ:∀d,stepG P true a (w.at d)=.ended (.done v) (w.at d) es)(fu:∀e∈es,EvL Shun w.heap.size e)(hp:∀d,Post v (w.at d)):At P Post K Shun (fun _=>False) Mem (fun _=>none) 0 n a w:=by
 intro d gs T q sl cU ha C;exact beside_ends (D:=fun _ _ es=>es=#[]) (Shun:=Shun) (B:=w.heap.size) (n:=0) (q:=q) (fun _ _ es he=>by subst he;intro e he;simp at he) ha (wu C) (DU C (C.past.hears 0 Hx)) (fun w₁ ⟨d',e⟩=>by subst e;exact⟨hs,v,es,gJ d',fu,hp d'⟩)
theorem A5(hK:K w)(hM:∀x,Mem x→x=0)(hA:At P Post K Shun (fun _=>False) Mem (fun _=>none) 0 1 a w):Goal P Post (solo a w) #[]:=by
 have e:solo a w=crowd #[a] w none:=rfl;rw[e];refine hA w.drawn #[a] #[] (fun _=>0) none rfl rfl ⟨fun i g hi hg=>?_,fun i s c _ e=>(by cases e),fun i s e=>(by cases e),fun _ _ z=>z.elim,fun i i' s s' c e=>(by cases e),fun j hj=>?_,fun i s e=>(by cases e),fun i hi=>.inr (hM i hi),fun i s _ e=>(by cases e),⟨fun said ⟨i,j,x⟩=>?_,fun i x hx=>?_,fun i x hx=>?_,fun g _=>rfl,fun op aQ=>by simp at aQ⟩,hK⟩
 ·rcases i with _|i
  ·exact absurd rfl hi
  ·simp at hg
 ·rfl
 ·obtain⟨_,⟨x,y,hx,_⟩,_⟩:=x
  simp[Trace.act?] at hx
 ·simp[touchAt,Trace.act?] at hx
 ·simp[touchAt,Trace.act?] at hx
end
end
section
open Go.Conc
open Go.ConcN (sumTo upd sumTo_upd upd_ne upd_same)
section
variable{P:Program}{Post:Value→World→Prop}{K:World→Prop}{Shun Still:Loc→Prop}{B:Nat}{Mem:Nat→Prop}{Inb:Nat→Option Seat}{h n:Nat}{T:Trace}{gs:Array Goroutine}{w:World}{q:Nat→Nat}{a g:Goroutine}
theorem At.keep{K':World→Prop}(hK:∀d,K' (w.at d))(hn:At P Post K' Shun (fun _=>False) Mem (fun _=>none) 0 n a w):At P Post K Shun (fun _=>False) Mem (fun _=>none) 0 n a w:=
 fun d gs T q sl cU ha C=>hn d gs T q sl cU ha (vN C (hK d))
theorem iY{w:World}{c:Nat}{a:Addr}(h:c≠a.block)(cap:Nat)(buf:Array Value)(cl:Bool)(x y:Nat)(tm:Bool):(w.setChan c cap buf cl x y tm).cell? a=w.cell? a∧(w.setChan c cap buf cl x y tm).frozen? a=w.frozen? a:=by
 have e:=heap_setChan_ne w cap buf cl x y tm h
 constructor
 ·unfold World.cell?;rw[e]
 ·unfold World.frozen?;rw[e]
theorem HP{Ok:Addr→Bool→Prop}(Cy:∀ad,Still (.cell ad)→¬Ok ad true)(hSh:∀ad wr,Shun (.cell ad)→¬Ok ad wr)(hK:∀w w' es,DX Ok w w' es→K w→K w')(w w':World)(es:Array Event)(D:DX Ok w w' es):DR K Shun Still h w w' es:=by
 refine⟨hK _ _ _ D,fun c cap k hc=>by rw[hc];exact D.obj c _ hc (fun _ _ _ z=>by cases z),D.size,fun e he=>?_⟩;rcases D.ev e he with ⟨ad,e1,_,e3,e4⟩|rfl
 ·obtain⟨loc,wr,sy⟩:=e
  simp only at e1
  subst e1;refine⟨⟨fun x hx=>?_,e4⟩,by simp,by simp⟩
  have pG:(⟨.cell ad,wr,if sy then .atomic else .plain⟩:Touch)=x:=by
   cases sy<;>simpa [MemAct.ofEvent,MemAct.touch?] using hx
  subst pG;refine⟨fun z=>?_,fun z=>absurd e3 (hSh ad wr z)⟩;cases wr
  ·rfl
  ·exact absurd e3 (Cy ad z)
 ·refine⟨⟨fun x hx=>?_,?_⟩,by simp[noRoomEvent],by simp[noRoomEvent]⟩
  ·simp[noRoomEvent,MemAct.ofEvent,MemAct.touch?] at hx
  ·simp[noRoomEvent,MemAct.ofEvent,MemAct.low]
end
end
section
open Go.Conc
open Go.ConcN (sumTo upd sumTo_upd upd_ne upd_same)
structure QF(P:Program)(main:Bool)(K:World→Prop)(Ev:Event→Prop)(Ψ:Goroutine→Prop):Prop where
 step:∀g g',g.status=.running→(∀w,K w→∃es,stepG P main g w=.go g' w es∧∀e∈es,Ev e)→Ψ g'→Ψ g
section
variable{P:Program}{main:Bool}{K:World→Prop}{Ev:Event→Prop}{Ψ:Goroutine→Prop}{b:Frame}{a A:Act}{k:List Item}{cs:List Frame}{ops:Array Oper}{i:Nat}{rest:List Nat}{o:Oper}
theorem QF.ctl(F:QF P main K Ev Ψ){fr Tb:Frame}{cs dY:List Frame}(h:∀w,stepG P main (G fr cs) w=.go (G Tb dY) w #[])(hk:Ψ (G Tb dY)):Ψ (G fr cs):=
 F.step _ _ rfl (fun w _=>⟨#[],h w,fun e he=>by simp at he⟩) hk
theorem QF.op(F:QF P main K Ev Ψ)(ho:ops[i]? =some o)(hw:Region.wanted o (yielded ops a.tmps)=true)(hk:b.kind≠.early)(he:∀w,K w→∀e∈(execOp a.eval o).events P w #[],Ev e)(h:∀w,K w→uponK o a (fun a' w'=>w'=w∧a'=A) ((execOp a.eval o).run P w))(hn:Ψ (G (b.at A (.inRegion ops rest::k)) cs)):Ψ (G (b.at a (.inRegion ops (i::rest)::k)) cs):=by
 refine F.step _ _ rfl (fun w hK=>⟨listed P b.fn a o w,?_,fun e hm=>he w hK e (Go.Conc.mem_listed hm)⟩) hn;have:=goes_oper_k (P:=P) (main:=main) (k:=k) (cs:=cs) (rest:=rest) (K:=fun g' w' es=>g'=G (b.at A (.inRegion ops rest::k)) cs∧w'=w∧es=listed P b.fn a o w) ho hw hk (fun K' zL=>uponK_mono (fun a' w' x=>by obtain⟨rfl,rfl⟩:=x;exact zL _ _ ⟨rfl,rfl,rfl⟩) (h w hK))
 revert this
 cases stepG P main (G (b.at a (.inRegion ops (i::rest)::k)) cs) w<;>intro this
 case go g' w' es=>rw[goes_go] at this;obtain⟨rfl,rfl,rfl⟩:=this;rfl
 all_goals exact this.elim
theorem QF.xT(F:QF P main K Ev Ψ)(ho:ops[i]? =some o)(hw:Region.wanted o (yielded ops a.tmps)=true)(hk:b.kind≠.early)(he:∀w,K w→(execOp a.eval o).events P w #[]=#[])(h:∀w,K w→uponK o a (fun a' w'=>w'=w∧a'=A) ((execOp a.eval o).run P w))(hn:Ψ (G (b.at A (.inRegion ops rest::k)) cs)):Ψ (G (b.at a (.inRegion ops (i::rest)::k)) cs):=
 F.op ho hw hk (fun w hK e hm=>by rw[he w hK] at hm;simp at hm) h hn
theorem QF.unwanted(F:QF P main K Ev Ψ)(ho:ops[i]? =some o)(hw:Region.wanted o (yielded ops a.tmps)=false)(h:Ψ (G (b.at (a.put o.dst undef) (.inRegion ops rest::k)) cs)):Ψ (G (b.at a (.inRegion ops (i::rest)::k)) cs):=
 F.ctl (fun _=>stepG_unwanted ho hw) h
theorem QF.oq(F:QF P main K Ev Ψ)(ho:ops[i]? =some o)(hw:Region.wanted o (yielded ops a.tmps)=true)(hk:late b=true)(he:∀w,K w→(execOp a.eval o).events P w #[]=#[])(h:∀w,K w→uponK o a (fun a' w'=>w'=w∧a'=A) ((execOp a.eval o).run P w))(hn:Ψ (G (b.at A (.inRegion ops rest::k)) cs)):Ψ (G (b.at a (.inRegion ops (i::rest)::k)) cs):=F.xT ho hw (qk hk) he h hn
theorem QF.re(F:QF P main K Ev Ψ){ops:Array Oper}(h:Ψ (G (b.at a (k)) cs)):Ψ (G (b.at a (.inRegion ops []::k)) cs):=F.ctl (fun _=>stepG_region_end) h
theorem QF.sq(F:QF P main K Ev Ψ){x y:Code}(h:Ψ (G (b.at a (.code x::.code y::k)) cs)):Ψ (G (b.at a (.code (.seq x y)::k)) cs):=F.ctl (fun _=>stepG_seq) h
theorem QF.rr(F:QF P main K Ev Ψ){id:Nat}{l:List Oper}(h:Ψ (G (b.at a (.inRegion l.toArray (rg l 0)::k)) cs)):Ψ (G (b.at a (.code (.region id l.toArray false)::k)) cs):=F.ctl (fun _=>stepG_region) (by rw[yE];exact h)
theorem QF.sr(F:QF P main K Ev Ψ){id:Nat}{l:List Oper}{y:Code}(h:Ψ (G (b.at a (.inRegion l.toArray (rg l 0)::.code y::k)) cs)):Ψ (G (b.at a (.code (.seq (.region id l.toArray false) y)::k)) cs):=F.sq (F.rr h)
theorem QF.es(F:QF P main K Ev Ψ){ops:Array Oper}{x y:Code}(h:Ψ (G (b.at a (.code x::.code y::k)) cs)):Ψ (G (b.at a (.inRegion ops []::.code (.seq x y)::k)) cs):=F.re (F.sq h)
theorem QF.er(F:QF P main K Ev Ψ){ops:Array Oper}{id:Nat}{l:List Oper}(h:Ψ (G (b.at a (.inRegion l.toArray (rg l 0)::k)) cs)):Ψ (G (b.at a (.inRegion ops []::.code (.region id l.toArray false)::k)) cs):=F.re (F.rr h)
theorem QF.XT(F:QF P main K Ev Ψ){ops:Array Oper}{id:Nat}{l:List Oper}{y:Code}(h:Ψ (G (b.at a (.inRegion l.toArray (rg l 0)::.code y::k)) cs)):Ψ (G (b.at a (.inRegion ops []::.code (.seq (.region id l.toArray false) y)::k)) cs):=F.re (F.sr h)
theorem QF.ak(F:QF P main K Ev Ψ)(hn:Ψ (G (b.at A (.inRegion ops rest::k)) cs))(ho:ops[i]? =some o:=by exact rfl)(hw:Region.wanted o (yielded ops a.tmps)=true:=by exact rfl)(hk:late b=true:=by exact rfl)(he:∀w,K w→(execOp a.eval o).events P w #[]=#[]:=by simp[go_sem])(h:∀w,K w→uponK o a (fun a' w'=>w'=w∧a'=A) ((execOp a.eval o).run P w):=by intro w hw;go_simp;first|exact⟨rfl,rfl⟩|exact rfl):Ψ (G (b.at a (.inRegion ops (i::rest)::k)) cs):=F.oq ho hw hk he h hn
theorem QF.bq(F:QF P main K Ev Ψ)(h:Ψ (G (b.at (a.put o.dst undef) (.inRegion ops rest::k)) cs))(ho:ops[i]? =some o:=by exact rfl)(hw:Region.wanted o (yielded ops a.tmps)=false:=by exact rfl):Ψ (G (b.at a (.inRegion ops (i::rest)::k)) cs):=F.unwanted ho hw h
theorem QF.nJ(F:QF P main K Ev Ψ){id:Nat}{l:List Oper}{r:List Nat}(h:Ψ (G (b.at a (.inRegion l.toArray r::k)) cs))(hr:rg l 0=r:=by simp only[rg,Nat.reduceAdd];exact rfl):Ψ (G (b.at a (.code (.region id l.toArray false)::k)) cs):=F.rr (hr▸h)
theorem QF.bh(F:QF P main K Ev Ψ){id:Nat}{l:List Oper}{y:Code}{r:List Nat}(h:Ψ (G (b.at a (.inRegion l.toArray r::.code y::k)) cs))(hr:rg l 0=r:=by simp only[rg,Nat.reduceAdd];exact rfl):Ψ (G (b.at a (.code (.seq (.region id l.toArray false) y)::k)) cs):=F.sr (hr▸h)
theorem QF.Ey(F:QF P main K Ev Ψ){ops:Array Oper}{id:Nat}{l:List Oper}{r:List Nat}(h:Ψ (G (b.at a (.inRegion l.toArray r::k)) cs))(hr:rg l 0=r:=by simp only[rg,Nat.reduceAdd];exact rfl):Ψ (G (b.at a (.inRegion ops []::.code (.region id l.toArray false)::k)) cs):=F.er (hr▸h)
theorem QF.cI(F:QF P main K Ev Ψ){ops:Array Oper}{id:Nat}{l:List Oper}{y:Code}{r:List Nat}(h:Ψ (G (b.at a (.inRegion l.toArray r::.code y::k)) cs))(hr:rg l 0=r:=by simp only[rg,Nat.reduceAdd];exact rfl):Ψ (G (b.at a (.inRegion ops []::.code (.seq (.region id l.toArray false) y)::k)) cs):=F.XT (hr▸h)
theorem QF.cf(F:QF P main K Ev Ψ){c:Operand}{x y:Code}(e:a.eval c=.bool false)(h:Ψ (G (b.at a (.code y::k)) cs)):Ψ (G (b.at a (.code (.cond c x y)::k)) cs):=F.ctl (fun _=>stepG_cond (t:=false) e) h
theorem QF.ct(F:QF P main K Ev Ψ){c:Operand}{x y:Code}(e:a.eval c=.bool true)(h:Ψ (G (b.at a (.code x::k)) cs)):Ψ (G (b.at a (.code (.cond c x y)::k)) cs):=F.ctl (fun _=>stepG_cond (t:=true) e) h
theorem QF.sk(F:QF P main K Ev Ψ)(h:Ψ (G (b.at a (k)) cs)):Ψ (G (b.at a (.code .skip::k)) cs):=F.ctl (fun _=>stepG_skip) h
theorem QF.bl(F:QF P main K Ev Ψ){id:Nat}{c:Code}(h:Ψ (G (b.at a (.code c::.inBlock id::k)) cs)):Ψ (G (b.at a (.code (.block id c)::k)) cs):=F.ctl (fun _=>stepG_block) h
theorem QF.ib(F:QF P main K Ev Ψ){id:Nat}(h:Ψ (G (b.at a (k)) cs)):Ψ (G (b.at a (.inBlock id::k)) cs):=F.ctl (fun _=>stepG_inBlock) h
theorem QF.enter(F:QF P main K Ev Ψ){f:FuncId}{args:Array Value}(ho:ops[i]? =some o)(hw:Region.wanted o (yielded ops a.tmps)=true)(hk:b.kind≠.early)(hr:∀w,(execOp a.eval o).run P w=.ok (.enter f args) w)(he:∀w,(execOp a.eval o).events P w #[]=#[])(h:Ψ (G (Frame.enter P f args .normal) (b.at a (.inRegion ops (i::rest)::k)::cs))):Ψ (G (b.at a (.inRegion ops (i::rest)::k)) cs):=
 F.ctl (fun w=>by rw[stepG_enter ho hw hk (hr w),listed_nil (he w)]) h
theorem QF.aF(F:QF P main K Ev Ψ){fn:Func}{todo:List Item}{c:Frame}{v:Value}(hn:b.kind=.normal)(hd:a.defers=[])(hf:P.funcs[b.fn]? =some fn)(hr:ResultsC P fn a.tmps v)(h:Ψ (G (c.finish v) cs)):Ψ (G {b.at a todo with mode:=.returning} (c::cs)):=
 F.ctl (fun w=>by rw[stepG_leave hn hd hf (hr _).1 (hr _).2]) h
end
section
variable{P:Program}{K:World→Prop}{Shun Still:Loc→Prop}{B:Nat}{Gp:rR}{Anchor:Goroutine→Prop}
theorem o9(d:Nat):QF P false (fun _=>True) (fun _=>False) (fun g=>∃n,QuitsD P n d g):=
 ⟨fun g g' hs h ⟨n,hn⟩=>⟨n+1,.inr ⟨hs,g',#[],fun e he=>by simp at he,fun w=>by obtain⟨es,e1,e2⟩:=h w trivial;rw[e1,Array.eq_empty_iff_forall_not_mem.2 fun e he=>e2 e he],hn⟩⟩⟩
theorem rX(main:Bool)(s:Seat)(w:World):QF P main K (EvC Still B) (fun g=>∃n,Goes P main (RK K) (DS Still B) (fun g _=>∃g₂,AtIn P main K Still B s g g₂) n g w):=
 ⟨fun g g' hs h ⟨n,hn⟩=>⟨n+1,.inr ⟨hs,fun w₁ hw=>by obtain⟨es,e1,e2⟩:=h w₁ hw;rw[e1];exact⟨⟨rfl,e2⟩,Goes.rely (fun _ _ _ _ x=>x) hn hw⟩⟩⟩⟩
end
end
section
open Go.Conc
open Go.ConcN (sumTo upd sumTo_upd upd_ne upd_same)
def KL(l:List (Addr×Value))(cc:List Nat)(w:World):Prop:=(∀p∈l,w.cell? p.1=some p.2)∧∀c∈cc,∃k,w.heap[c]? =some (.chan 0 #[] false k k false)
def xL(l:List (Addr×Value))(x:Loc):Prop:=∃p∈l,x=.cell p.1
section
variable{l:List (Addr×Value)}{cc:List Nat}{w w':World}{es:Array Event}
theorem LC{Ok:Addr→Bool→Prop}(hn:∀p∈l,¬Ok p.1 true):∀w w' es,DX Ok w w' es→KL l cc w→KL l cc w':=fun w w' es D h=>
 ⟨fun p hp=>by rw[(D.cell p.1 (hn p hp) (aq (h.1 p hp))).1];exact h.1 p hp,fun c hc=>by obtain⟨k,hk⟩:=h.2 c hc;exact⟨k,D.obj c _ hk (fun _ _ _ z=>by cases z)⟩⟩
theorem JS{c k:Nat}(aN:∀p∈l,c≠p.1.block)(hc:c∈cc)(h:KL l cc w):KL l cc (w.setChan c 0 #[] false k k false):=by
 refine⟨fun p hp=>by rw[(iY (aN p hp) ..).1];exact h.1 p hp,fun c' eP=>?_⟩
 by_cases e:c=c'
 ·subst e
  obtain⟨k',gB⟩:=h.2 c hc;exact⟨k,heap_setChan_self w gB _ _ _ _ _ _⟩
 ·obtain⟨k',gB⟩:=h.2 c' eP
  exact⟨k',by rw[heap_setChan_ne w _ _ _ _ _ _ e];exact gB⟩
theorem GJ{l':List (Addr×Value)}{cc':List Nat}(h1:∀p∈l',p∈l)(h2:∀c∈cc',c∈cc)(h:KL l cc w):KL l' cc' w:=⟨fun p hp=>h.1 p (h1 p hp),fun c hc=>h.2 c (h2 c hc)⟩
theorem wN{a:Addr}{v:Value}(h1:w.cell? a=some v)(h:KL l cc w):KL ((a,v)::l) cc w:=⟨fun p hp=>by rcases List.mem_cons.1 hp with rfl|hp;exact h1;exact h.1 p hp,h.2⟩
theorem wj{x:Loc}(h:xL l x):x.isMemory=true:=by obtain⟨p,_,rfl⟩:=h;rfl
end
section
variable{P:Program}{D:World→World→Array Event→Prop}{Ψ:Goroutine→World→Prop}{main:Bool}{K:World→Prop}{Ev:Event→Prop}{Φ:Goroutine→Prop}
abbrev CF(P:Program)(main:Bool)(Φ:Goroutine→Prop):Prop:=QF P main (fun _=>True) (fun _=>False) Φ
theorem uf(F:aC P main D Ψ)(w:World):CF P main (fun g=>Ψ g w):=
 ⟨fun g g' hs h hn=>F.step g w hs fun d=>by
  have e:∀w,stepG P main g w=.go g' w #[]:=fun w=>by
   obtain⟨es,e1,e2⟩:=h w trivial;rw[e1,Array.eq_empty_iff_forall_not_mem.2 fun e he=>e2 e he]
  exact⟨_,_,_,e _,F.idle _ _,F.at' _ _ _ hn,fun _ _ _ _=>e _⟩⟩
theorem TD(F:QF P main K Ev Φ):CF P main Φ:=⟨fun g g' hs h hn=>F.step g g' hs (fun w _=>by obtain⟨es,e1,e2⟩:=h w trivial;exact⟨es,e1,fun e he=>(e2 e he).elim⟩) hn⟩
end
end
section
open Go.Conc Go.RowKit
open Go.ConcN (sumTo upd sumTo_upd upd_ne upd_same)
section
variable{P:Program}{Post:Value→World→Prop}{K:World→Prop}{Shun Still:Loc→Prop}{B:Nat}{Mem:Nat→Prop}{Inb:Nat→Option Seat}{h n dl:Nat}{T:Trace}{gs:Array Goroutine}{w:World}{q:Nat→Nat}{a g:Goroutine}
theorem At.assume(yY:∀w d,K w→K (w.at d))(H:K w→At P Post K Shun Still Mem Inb h n g w):At P Post K Shun Still Mem Inb h n g w:=
 fun d gs T q sl hn hg C=>H (show K w from yY (w.at d) w.drawn C.keep) d gs T q sl hn hg C
abbrev qa(P:Program)(Post:Value→World→Prop)(K:World→Prop)(Shun:Loc→Prop)(n:Nat):Goroutine→World→Prop:=At P Post K Shun (fun _=>False) (fun g=>g=0) (fun _=>none) 0 n
theorem At.Tk{v:Value}{es:Array Event}(hs:a.status=.running)(gJ:∀d,stepG P true a (w.at d)=.ended (.done v) (w.at d) es)(fu:∀e∈es,EvL Shun w.heap.size e)(hp:∀d,K (w.at d)→Post v (w.at d))(yY:∀w d,K w→K (w.at d)):qa P Post K Shun n a w:=
 At.assume yY fun hK=>At.ends hs rfl gJ fu fun d=>hp d (yY _ _ hK)
end
def jQ(l:List Nat)(x:Loc):Prop:=∃A∈l,x=.cell ⟨A,5,none⟩∨x=.cell ⟨A,6,none⟩
theorem FP{l:List Nat}{A:Nat}{x:Loc}(h:jQ l x):jQ (A::l) x:=by obtain⟨B,hB,e⟩:=h;exact⟨B,List.mem_cons_of_mem _ hB,e⟩
theorem Jm{l:List Nat}{A:Nat}{x:Loc}(h:jQ (A::l) x):jQ l x∨T0 A x:=by
 obtain⟨B,hB,e⟩:=h;rcases List.mem_cons.1 hB with rfl|hB
 ·exact .inr (e.elim (fun e=>⟨_,e,Nat.le_refl _⟩) fun e=>⟨_,e,Nat.le_refl _⟩)
 ·exact .inl ⟨B,hB,e⟩
def cQ(N0:Nat)(l:List Nat)(st:List (Addr×Value))(a:Addr)(wr:Bool):Prop:=¬jQ l (.cell a)∧(wr=true→N0≤a.block∧¬xL st (.cell a))
def Old(wI w:World):Prop:=w.os=wI.os∧w.tape=wI.tape∧w.output=wI.output∧wI.heap.size≤w.heap.size∧∀k,k<wI.heap.size→w.heap[k]? =wI.heap[k]?
theorem Old.below{wI w:World}(h:Old wI w):Below wI.heap.size wI w:=⟨h.1,h.2.1,h.2.2.1,h.2.2.2.1,h.2.2.2.2⟩
theorem Old.of{wI w:World}(h:Below wI.heap.size wI w):Old wI w:=⟨h.os,h.tape,h.output,h.size,h.block⟩
theorem Old.cell{wI w:World}(h:Old wI w)(a:Addr)(v:Value)(hv:wI.cell? a=some v):w.cell? a=some v:=(h.below.cell (aq hv)).trans hv
section
variable{P:Program}{Post:Value→World→Prop}{wI w w':World}{st:List (Addr×Value)}{cc:List Nat}{l:List Nat}{es:Array Event}{Ok TY:Addr→Bool→Prop}
theorem ig:∀w d,Old wI w→Old wI (w.at d):=fun _ _ h=>h
theorem Am{Ok:Addr→Bool→Prop}(hn:∀a,Ok a true→wI.heap.size≤a.block):∀w w' es,DX Ok w w' es→Old wI w→Old wI w':=fun w w' es D h=>
 ⟨D.rest.1.trans h.1,D.rest.2.1.trans h.2.1,D.rest.2.2.trans h.2.2.1,Nat.le_trans h.2.2.2.1 D.size,fun k hk=>(D.blk k (Nat.lt_of_lt_of_le hk h.2.2.2.1) (fun a ha z=>by have:=hn a z;omega)).trans (h.2.2.2.2 k hk)⟩
theorem BP{a:Addr}{v:Value}(ha:wI.heap.size≤a.block)(h:Old wI w):Old wI (w.setCell a v):=Old.of (Below.setCell h.below ha v)
theorem Gn{c cap:Nat}{buf:Array Value}{cl:Bool}{x y:Nat}{tm:Bool}(hc:wI.heap.size≤c)(h:Old wI w):Old wI (w.setChan c cap buf cl x y tm):=
 ⟨h.1,h.2.1,h.2.2.1,by simp only[World.setChan,Array.size_setIfInBounds];exact h.2.2.2.1,fun k hk=>by
  rw[←h.2.2.2.2 k hk];simp only[World.setChan];exact Array.getElem?_setIfInBounds_ne (by omega)⟩
theorem rP(n:Nat):aC P true (DX (cQ wI.heap.size l [])) (qa P Post (Old wI) (jQ l) n):=
 Ie (h:=0) ig (HP (fun ad z=>z.elim) (fun ad wr z o=>o.1 z) (Am fun a o=>(o.2 rfl).1)) DX.idle xE rfl
end
end
section
open Go.Conc
open Go.ConcN (sumTo upd sumTo_upd upd_ne upd_same)
structure P3(Shun:Loc→Prop)(St:Nat→Loc→Prop)(lT:Nat→Prop)(B h:Nat)(t:Trace):Prop where
 clean:∀said,¬Race said t
 known:∀i a,touchAt t i=some a→a.loc.isMemory=true→Acc Shun h t i∨(a.write=false∧∃g,t.g? i=some g∧lT g∧St g a.loc)
 wrote:∀i a,touchAt t i=some a→a.write=true→∀g,lT g→St g a.loc→Knows t g i
 hears:∀g,lT g→Deaf t g=0
 seen:∀op∈t,op.act.low B
def oI(St:Nat→Loc→Prop)(lT:Nat→Prop)(l:Loc):Prop:=∃g,lT g∧St g l
section
variable{Shun:Loc→Prop}{St uB:Nat→Loc→Prop}{lT qL:Nat→Prop}{B B' h j c g:Nat}{t u:Trace}
theorem P3.mono(H:P3 Shun St lT B h t)(hB:B≤B'):P3 Shun St lT B' h t:=⟨H.clean,H.known,H.wrote,H.hears,fun op aQ=>MemAct.low_mono hB (H.seen op aQ)⟩
theorem oY{i:Nat}{a a':Touch}(h1:touchAt t i=some a)(h2:touchAt t i=some a'):a'=a:=by rw[h1] at h2;exact(Option.some.inj h2).symm
theorem gr{fn:FuncId}{pos:String}{es:Array Event}:∀op∈MemOp.ofEvents g fn pos es,op.g=g:=fun op aQ=>by obtain⟨e,_,rfl⟩:=Go.Conc.mem_ofEvents aQ;rfl
theorem Ak(H:P3 Shun St lT B h t){fn:FuncId}{pos:String}{es:Array Event}(fu:∀e∈es,xN Shun (oI St lT) B h e)(hh:¬lT h):P3 Shun St lT B h (t++MemOp.ofEvents h fn pos es):=by
 have hu:∀op∈MemOp.ofEvents h fn pos es,op.g=h:=gr
 have dS:∀op∈MemOp.ofEvents h fn pos es,∀b,op.act.touch? =some b→(oI St lT b.loc→b.write=false)∧(Shun b.loc→b.kind≠.plain∧(b.kind=.said→h=0)):=fun op aQ b hb=>by
  obtain⟨e,he,rfl⟩:=Go.Conc.mem_ofEvents aQ;exact(fu e he).1 b hb
 refine⟨fun said=>noRace_append (H.clean said) hu fun i a ha op aQ b hb hc=>?_,fun i a ha hm=>?_,fun i a ha hw g hg hS=>?_,fun g hg=>?_,fun op aQ=>?_⟩
 ·obtain⟨e1,e2,e3,e4⟩:=hc
  rcases H.known i a ha e2 with ⟨_,hk,_⟩|⟨hw,g,_,hg,hS⟩
  ·rcases hk with hk|⟨a',mA,nD,Cf,_⟩
   ·exact hk
   ·obtain rfl:=oY ha mA
    have zK:=(dS op aQ b hb).2 (e1▸Cf);rcases e4 with x|x|⟨_,x,_⟩
    ·rw[nD] at x;cases x
    ·exact absurd x zK.1
    ·rw[nD] at x;cases x
  ·rcases e3 with x|x
   ·rw[hw] at x;cases x
   ·have:=(dS op aQ b hb).1 ⟨g,hg,e1▸hS⟩
    rw[this] at x;cases x
 ·obtain⟨x,hx,oK⟩:=touch_of ha
  rcases getElem?_append_cases hx with ⟨hi,pG⟩|⟨_,qT⟩
  ·rcases H.known i a (by rw[touchAt_of pG];exact oK) hm with hk|⟨p,g,hg,hl⟩
   ·exact .inl (hk.app _)
   ·exact .inr ⟨p,g,by rw[g?_old hi];exact hg,hl⟩
  ·have hk:=knows_own hx
   rw[hu x qT] at hk;refine .inl ⟨lt_size_of_getElem? hx,.inl hk,fun a' mA hs=>?_⟩;obtain rfl:=oY ha mA;obtain⟨h1,h2⟩:=(dS x qT a' oK).2 hs;exact⟨h1,fun h3=>by rw[g?_of hx,hu x qT,h2 h3]⟩
 ·obtain⟨x,hx,oK⟩:=touch_of ha
  rcases getElem?_append_cases hx with ⟨_,pG⟩|⟨_,qT⟩
  ·exact(H.wrote i a (by rw[touchAt_of pG];exact oK) hw g hg hS).app _
  ·rw[(dS x qT a oK).1 ⟨g,hg,hS⟩] at hw;cases hw
 ·rw[Deaf_other t (fun z=>hh (by rw[z];exact hg)) _ hu];exact H.hears g hg
 ·rcases Array.mem_append.1 aQ with aQ|aQ
  ·exact H.seen op aQ
  ·obtain⟨e,he,rfl⟩:=Go.Conc.mem_ofEvents aQ;exact(fu e he).2
theorem rY(H:P3 Shun St lT B h t)(hu:∀op∈u,op.g=g)(hr:∀op∈u,∀b,op.act.touch? =some b→b.write=false∧lT g∧St g b.loc)(hd:lT g→Deaf (t++u) g=Deaf t g)(hl:∀op∈u,op.act.low B):P3 Shun St lT B h (t++u):=by
 refine⟨fun said=>noRace_append (H.clean said) hu fun i a ha op aQ b hb hc=>?_,fun i a ha hm=>?_,fun i a ha hw g' qY hS=>?_,fun g' qY=>?_,seen_app H.seen hl⟩
 ·obtain⟨pJ,hg,hbS⟩:=hr op aQ b hb
  rcases hc.2.2.1 with x|x
  ·exact H.wrote i a ha x g hg (hc.1▸hbS)
  ·rw[pJ] at x;cases x
 ·obtain⟨x,hx,oK⟩:=touch_of ha
  rcases getElem?_append_cases hx with ⟨hi,pG⟩|⟨_,qT⟩
  ·rcases H.known i a (by rw[touchAt_of pG];exact oK) hm with hk|⟨p,g',qY,dr⟩
   ·exact .inl (hk.app _)
   ·exact .inr ⟨p,g',by rw[g?_old hi];exact qY,dr⟩
  ·exact .inr ⟨(hr x qT a oK).1,g,by rw[g?_of hx,hu x qT],(hr x qT a oK).2⟩
 ·obtain⟨x,hx,oK⟩:=touch_of ha
  rcases getElem?_append_cases hx with ⟨_,pG⟩|⟨_,qT⟩
  ·exact(H.wrote i a (by rw[touchAt_of pG];exact oK) hw g' qY hS).app u
  ·rw[(hr x qT a oK).1] at hw;cases hw
 ·by_cases e:g=g'
  ·subst e;rw[hd qY];exact H.hears g qY
  ·rw[Deaf_other t e _ hu];exact H.hears g' qY
theorem Gh(H:P3 Shun St lT B h t)(Hv:∀g l,lT g→St g l→¬Shun l){fn:FuncId}{pos:String}{es:Array Event}(fu:∀e∈es,(∀x,(MemAct.ofEvent e).touch? =some x→x.kind=.atomic∧Shun x.loc)∧(MemAct.ofEvent e).low B)(hM:¬lT c)(hh:u9 (Deaf t c) es):
 P3 Shun St lT B h (t++MemOp.ofEvents c fn pos es):=by
 have hp:PastG (oI St lT) (fun _=>False) lT B (Acc Shun h t) t:=⟨H.clean,fun i a ha hm=>(H.known i a ha hm).imp id fun⟨p,g,hg,hs,hl⟩=>⟨p,⟨g,hs,hl⟩,g,hg,hs⟩,fun _ _ _ _ _ _ z=>z.elim,fun _ z=>z.elim,H.seen⟩;have AG:=Aj (c:=c) (fn:=fn) (pos:=pos) hp (fun l ⟨g,hg,hl⟩=>Hv g l hg hl) fu (fun z=>z) hh;have hu:∀op∈MemOp.ofEvents c fn pos es,op.g=c:=gr
 have dS:∀op∈MemOp.ofEvents c fn pos es,∀b,op.act.touch? =some b→b.kind=.atomic∧Shun b.loc:=fun op aQ b hb=>by
  obtain⟨e,he,rfl⟩:=Go.Conc.mem_ofEvents aQ;exact(fu e he).1 b hb
 refine⟨AG.clean,fun i a ha hm=>?_,fun i a ha hw g hg hS=>?_,fun g hg=>?_,AG.seen⟩
 ·obtain⟨x,hx,oK⟩:=touch_of ha
  rcases getElem?_append_cases hx with ⟨hi,pG⟩|⟨_,qT⟩
  ·rcases H.known i a (by rw[touchAt_of pG];exact oK) hm with hk|⟨p,g,hg,hl⟩
   ·exact .inl (hk.app _)
   ·exact .inr ⟨p,g,by rw[g?_old hi];exact hg,hl⟩
  ·refine(AG.known i a ha hm).imp id fun⟨_,_,g,hg,hs⟩=>?_
   rw[g?_of hx,hu x qT] at hg;obtain rfl:=Option.some.inj hg;exact absurd hs hM
 ·obtain⟨x,hx,oK⟩:=touch_of ha
  rcases getElem?_append_cases hx with ⟨_,pG⟩|⟨_,qT⟩
  ·exact(H.wrote i a (by rw[touchAt_of pG];exact oK) hw g hg hS).app _
  ·exact absurd (dS x qT a oK).2 (Hv g _ hg hS)
 ·rw[Deaf_other t (show c≠g from fun z=>hM (by rw[z];exact hg)) _ hu];exact H.hears g hg
theorem BM(H:P3 Shun St lT B h t)(Hv:∀g l,lT g→St g l→¬Shun l)(h1:∀g,lT g→g≠j→qL g∧∀l,St g l→uB g l)(h2:∀g,qL g→(lT g∧g≠j∧∀l,uB g l→St g l)∨(g=h∧∀l,uB g l→l.isMemory=true∧¬Shun l))(hn:∀op∈u,op.act.touch? =none)(hl:∀op∈u,op.act.low B)(hD:∀g,qL g→Deaf (t++u) g=0){p q:Nat}{x y:MemOp}(hp:t.size≤p)(hx:(t++u)[p]? =some x)(GP:x.g=h)(hy:(t++u)[q]? =some y)(hyg:y.g=j)(XV:HappensBefore (t++u) p q):
 P3 Shun uB qL B j (t++u):=by
 have pass:∀i,Knows t h i→Knows (t++u) j i:=fun i hk=>⟨q,y,hy,hyg,.inr ((hk.hb_new hp hx GP).trans XV)⟩
 refine⟨fun said=>noRace_appendMute (H.clean said) hn,fun i a ha hm=>?_,fun i a ha hw g hg hS=>?_,hD,seen_app H.seen hl⟩
 ·obtain⟨z,hz,NI⟩:=touch_of ha
  rcases getElem?_append_cases hz with ⟨hi,Ux⟩|⟨_,VR⟩
  ·rcases H.known i a (by rw[touchAt_of Ux];exact NI) hm with hk|⟨p',g,hg,hs,dr⟩
   ·exact .inl (hk.to (pass i))
   ·by_cases e:g=j
    ·subst e
     have hk:=knows_own hz;rw[show z.g=g from by have:=g?_of Ux;rw[hg] at this;exact(Option.some.inj this).symm] at hk;refine .inl ⟨lt_size_of_getElem? hz,.inl hk,fun a' mA Cf=>?_⟩;obtain rfl:=oY ha mA;exact absurd Cf (Hv _ _ hs dr)
    ·exact .inr ⟨p',g,by rw[g?_old hi];exact hg,(h1 g hs e).1,(h1 g hs e).2 _ dr⟩
  ·rw[hn z VR] at NI;cases NI
 ·obtain⟨z,hz,NI⟩:=touch_of ha
  rcases getElem?_append_cases hz with ⟨_,Ux⟩|⟨_,VR⟩
  ·have mA:touchAt t i=some a:=by rw[touchAt_of Ux];exact NI
   rcases h2 g hg with ⟨hs,_,bN⟩|⟨rfl,bN⟩
   ·exact(H.wrote i a mA hw g hs (bN _ hS)).app u
   ·obtain⟨m1,m2⟩:=bN _ hS
    rcases H.known i a mA m1 with ⟨_,hk|⟨b,hb,_,Cf,_⟩,_⟩|⟨hf,_⟩
    ·exact hk.app u
    ·obtain rfl:=oY mA hb
     exact absurd Cf m2
    ·rw[hf] at hw;cases hw
  ·rw[hn z VR] at NI;cases NI
theorem Gi(H:P3 Shun St lT B h t)(Hv:∀g l,lT g→St g l→¬Shun l)(h1:∀g,lT g→g≠j→qL g∧∀l,St g l→uB g l)(h2:∀g,qL g→(lT g∧g≠j∧∀l,uB g l→St g l)∨(g=h∧∀l,uB g l→l.isMemory=true∧¬Shun l))(hh:Deaf t h=0)(hj:lT j)(fh:FuncId)(ph:String)(fj:FuncId)(pj:String)(k:Nat)(hc:c<B):
 P3 Shun uB qL B j (t++met h j fh ph fj pj c k 0):=by
 have e0:(t++met h j fh ph fj pj c k 0)[t.size]? =some {g:=h,fn:=fh,pos:=ph,act:=.send c k}:=by simp[met]
 have e3:(t++met h j fh ph fj pj c k 0)[t.size+3]? =some {g:=j,fn:=fj,pos:=pj,act:=.recvDone c k}:=by simp[met]
 have hq:=met_quiet h j fh ph fj pj c k 0;have d0:(t++met h j fh ph fj pj c k 0).deaf h t.size=0:=by rw[deaf_old (Nat.le_refl _)];exact hh
 have d3:(t++met h j fh ph fj pj c k 0).deaf j (t.size+3)=0:=by rw[deaf_quiet (hq j) 3 (by simp[met])];exact H.hears j hj
 refine BM H Hv h1 h2 (met_mute h j fh ph fj pj c k 0) (fun op aQ=>?_) (fun g hg=>(Deaf_quiet (hq g)).trans ?_) (Nat.le_refl _) e0 rfl e3 rfl
  (Relation.TransGen.single (.inr ⟨.handOver (act?_of e0) (act?_of e3),⟨h,g?_of e0,d0⟩,⟨j,g?_of e3,d3⟩⟩))
 ·simp only[met,List.mem_toArray,List.mem_cons,List.not_mem_nil,or_false] at aQ
  rcases aQ with rfl|rfl|rfl|rfl<;>exact hc
 ·rcases h2 g hg with ⟨hs,_⟩|⟨rfl,_⟩
  ·exact H.hears g hs
  ·exact hh
theorem zb(fh:FuncId)(ph:String)(fc:FuncId)(fp:String)(g:Nat):∀op∈(#[{g:=h,fn:=fh,pos:=ph,act:=.go c},{g:=c,fn:=fc,pos:=fp,act:=.start}]:Trace),∀d,deafStep g d op=d:=by
 intro op aQ d;simp only[List.mem_toArray,List.mem_cons,List.not_mem_nil,or_false] at aQ;rcases aQ with rfl|rfl<;>rfl
theorem QS(H:P3 Shun St lT B h t)(Hv:∀g l,lT g→St g l→¬Shun l)(h1:∀g,lT g→qL g∧∀l,St g l→uB g l)(h2:∀g,qL g→(lT g∧g≠c∧∀l,uB g l→St g l)∨(g=h∧∀l,uB g l→l.isMemory=true∧¬Shun l))(hh:Deaf t h=0)(uX:Deaf t c=0)(fh:FuncId)(ph:String)(fc:FuncId)(fp:String):
 P3 Shun uB qL B c (t++#[{g:=h,fn:=fh,pos:=ph,act:=.go c},{g:=c,fn:=fc,pos:=fp,act:=.start}]):=by
 have e0:(t++#[{g:=h,fn:=fh,pos:=ph,act:=.go c},{g:=c,fn:=fc,pos:=fp,act:=.start}])[t.size]? =some {g:=h,fn:=fh,pos:=ph,act:=.go c}:=by simp
 have e1:(t++#[{g:=h,fn:=fh,pos:=ph,act:=.go c},{g:=c,fn:=fc,pos:=fp,act:=.start}])[t.size+1]? =some {g:=c,fn:=fc,pos:=fp,act:=.start}:=by simp
 have hq:=zb (h:=h) (c:=c) fh ph fc fp
 refine BM H Hv (fun g hg _=>h1 g hg) h2 (fun op aQ=>?_) (fun op aQ=>?_) (fun g hg=>(Deaf_quiet (hq g)).trans ?_) (Nat.le_refl _) e0 rfl e1 rfl
  (Relation.TransGen.single (.inr ⟨.spawn (act?_of e0) (act?_of e1) (g?_of e1),⟨h,g?_of e0,by rw[deaf_old (Nat.le_refl _)];exact hh⟩,⟨c,g?_of e1,by rw[deaf_quiet (hq c) 1 (by simp)];exact uX⟩⟩))
 ·simp only[List.mem_toArray,List.mem_cons,List.not_mem_nil,or_false] at aQ
  rcases aQ with rfl|rfl<;>rfl
 ·simp only[List.mem_toArray,List.mem_cons,List.not_mem_nil,or_false] at aQ
  rcases aQ with rfl|rfl<;>trivial
 ·rcases h2 g hg with ⟨hs,_⟩|⟨rfl,_⟩
  ·exact H.hears g hs
  ·exact hh
end
end
section
open Go.Conc
open Go.ConcN (sumTo upd sumTo_upd upd_ne upd_same)
def gv(m x:Nat):Int:=((m*4294967296+x:Nat):Int)
section
variable(P:Program)(K:World→Prop)(Gp:rR)
def Ql(M:Nat→Goroutine→Prop)(Q:Goroutine→Prop)(t:Nat)(g:Goroutine):Prop:=
 (g.status=.running∧∃g',(∀w,K w→stepG P false g w=.go g' w #[])∧M t g')∨
 (t=0∧g.status=.running∧∃g',(∀w,K w→stepG P false g w=.go g' w #[vr (.releaseMerge Gp.st)])∧M 1 g')∨
 (t=1∧g.status=.running∧∃g',(∀w,K w→stepG P false g w=.go g' w #[vr .disable])∧M 2 g')∨
 (t=2∧g.status=.running∧
   (∀m x:Nat,m<9→x<2→(x=0∨0<m)→∃g',(∀w,K w→jv .u64 Gp.st w (gv (m+1) x)→stepG P false g w=.go g' (w.setCell Gp.st (.int .u64 (gv m x))) #[uJ Gp.st,ES Gp.st])∧Q g')∧
   ∃g',(∀w,K w→jv .u64 Gp.st w (gv 1 1)→stepG P false g w=.go g' (w.setCell Gp.st (.int .u64 (gv 0 1))) #[uJ Gp.st,ES Gp.st])∧M 3 g')∨
 (t=3∧g.status=.running∧∃g',(∀w,K w→jv .u64 Gp.st w (gv 0 1)→stepG P false g w=.go g' w #[uJ Gp.st])∧M 4 g')∨
 (t=4∧g.status=.running∧∃g',(∀w,K w→jv .u64 Gp.st w (gv 0 1)→stepG P false g w=.go g' (w.setCell Gp.st (.int .u64 (gv 0 0))) #[ES Gp.st])∧M 5 g')∨
 (t=5∧g.status=.running∧mayWake P g=true∧∃g',g'.status=.running∧(∀w,K w→jv .u32 Gp.se w 0→stepG P false g w=.go g' (w.setCell Gp.se (.int .u32 1)) (semEvents Gp.se))∧Q g')
def DP:Nat→Nat→Goroutine→Prop
 |0,_,_=>False
 |n+1,t,g=>Ql P K Gp (DP n) (QuitsD P n 1) t g
end
section
variable{P:Program}{K K':World→Prop}{Gp:rR}{M M':Nat→Goroutine→Prop}{Q Q':Goroutine→Prop}{t n:Nat}{g g':Goroutine}
theorem Ql.mono(hK:∀w,K' w→K w)(h:∀t g,M t g→M' t g)(x:Ql P K Gp M Q t g):Ql P K' Gp M' Q t g:=by
 rcases x with ⟨a,g',b,c⟩|⟨a,b,g',c,d⟩|⟨a,b,g',c,d⟩|⟨a,b,e,g',c,d⟩|⟨a,b,g',c,d⟩|⟨a,b,g',c,d⟩|⟨a,b,c,g',d,e,f⟩
 ·exact .inl ⟨a,g',fun w y=>b w (hK w y),h _ _ c⟩
 ·exact .inr (.inl ⟨a,b,g',fun w y=>c w (hK w y),h _ _ d⟩)
 ·exact .inr (.inr (.inl ⟨a,b,g',fun w y=>c w (hK w y),h _ _ d⟩))
 ·exact .inr (.inr (.inr (.inl ⟨a,b,fun m x h1 h2 h3=>by obtain⟨g2,y1,y2⟩:=e m x h1 h2 h3;exact⟨g2,fun w y=>y1 w (hK w y),y2⟩,g',fun w y=>c w (hK w y),h _ _ d⟩)))
 ·exact .inr (.inr (.inr (.inr (.inl ⟨a,b,g',fun w y=>c w (hK w y),h _ _ d⟩))))
 ·exact .inr (.inr (.inr (.inr (.inr (.inl ⟨a,b,g',fun w y=>c w (hK w y),h _ _ d⟩)))))
 ·exact .inr (.inr (.inr (.inr (.inr (.inr ⟨a,b,c,g',d,fun w y=>e w (hK w y),f⟩)))))
theorem DP.mono(hK:∀w,K' w→K w):∀(n t:Nat)(g:Goroutine),DP P K Gp n t g→DP P K' Gp n t g
 |0,_,_,h=>h
 |n+1,_,_,h=>Ql.mono hK (fun t g=>DP.mono hK n t g) h
theorem DP.inv(h:DP P K Gp n t g):∃m,n=m+1∧Ql P K Gp (DP P K Gp m) (QuitsD P m 1) t g:=by
 cases n with
 |zero=>exact h.elim
 |succ m=>exact⟨m,rfl,h⟩
theorem DP.running(h:DP P K Gp n t g):g.status=.running:=by
 obtain⟨_,_,h⟩:=h.inv;rcases h with ⟨h,_⟩|⟨_,h,_⟩|⟨_,h,_⟩|⟨_,h,_⟩|⟨_,h,_⟩|⟨_,h,_⟩|⟨_,h,_⟩<;>exact h
end
structure C3(P:Program)(K:World→Prop)(Shun:Loc→Prop)(St:Nat→Loc→Prop)(B:Nat)(Inb:Nat→Option Seat)(Gp:rR)(h:Nat)(ds:List Nat)(sg:Nat→Nat)(T:Trace)(gs:Array Goroutine)(w:World)(q:Nat→Nat):Prop where
 idle:∀i g,i≠h→i∉ds→gs[i]? =some g→Idle P K (St i) B T i (q i) g (Inb i)
 dep:∀i,i∈ds→i≠h∧0<i∧Inb i=none∧∃g,gs[i]? =some g∧DP P K Gp (q i) (sg i) g∧Deaf T i=dC (sg i)
 nd:ds.Nodup
 chans:∀i s c,Inb i=some s→s.has c→∃cap k,w.heap[c]? =some (.chan cap #[] false k k false)
 wf:∀i s,Inb i=some s→s.Wf
 inj:∀i i' s s' c,Inb i=some s→Inb i'=some s'→s.has c→s'.has c→i=i'
 above:∀j,gs.size≤j→Deaf T j=0
 low:∀i s c,Inb i=some s→s.has c→c<B
 Ao:Inb h=none
 ss:∀i l,(Inb i).isSome→St i l→¬Shun l
 past:P3 Shun St (fun g=>(Inb g).isSome) B h T
 keep:K w
section
variable{P:Program}{K K':World→Prop}{Shun:Loc→Prop}{St:Nat→Loc→Prop}{B B':Nat}{Inb:Nat→Option Seat}{Gp:rR}{h:Nat}{ds:List Nat}{sg:Nat→Nat}{T:Trace}{gs:Array Goroutine}{w w':World}{q:Nat→Nat}
theorem AtIn.less{main:Bool}{Still:Loc→Prop}{s:Seat}{g g₂:Goroutine}(hK:∀w,K' w→K w)(x:AtIn P main K Still B s g g₂):AtIn P main K' Still B s g g₂:=by
 obtain⟨h1,h2,h3,h4,h5,es,fu,bN⟩:=x;exact⟨h1,h2,h3,h4,h5,es,fu,fun w hw=>bN w (hK w hw)⟩
theorem vG{main:Bool}{D:World→World→Array Event→Prop}{S S':Goroutine→World→Prop}(hK:∀w,K' w→K w)(hS:∀g w,S g w→S' g w):
 ∀{n:Nat}{g:Goroutine}{w:World},Goes P main (RK K) D S n g w→Goes P main (RK K') D S' n g w
 |0,_,_,h=>fun w₁ r=>hS _ _ (h w₁ (hK _ r))
 |n+1,_,_,h=>h.elim (fun x=>.inl fun w₁ r=>hS _ _ (x w₁ (hK _ r))) fun⟨hs,x⟩=>.inr ⟨hs,fun w₁ r=>by
  have:=x w₁ (hK _ r)
  revert this
  cases stepG P main _ w₁<;>simp only[GStep.goes,imp_self]
  exact fun⟨d,y⟩=>⟨d,vG hK hS y⟩⟩
theorem Sits.less{main:Bool}{Still:Loc→Prop}{s:Seat}{n:Nat}{g:Goroutine}(hK:∀w,K' w→K w)(x:Sits P main K Still B s n g):Sits P main K' Still B s n g:=by
 rcases x with ⟨k,w,e,hg⟩|⟨e,g₀,g₂,e2,nD⟩
 ·exact .inl ⟨k,w,e,vG hK (fun _ _ ⟨g₂,y⟩=>⟨g₂,AtIn.less hK y⟩) hg⟩
 ·exact .inr ⟨e,g₀,g₂,e2,AtIn.less hK nD⟩
theorem C3.less(C:C3 P K Shun St B Inb Gp h ds sg T gs w q)(hK:∀w,K' w→K w)(hw:K' w):C3 P K' Shun St B Inb Gp h ds sg T gs w q:=by
 refine⟨fun i g hi hd hg=>?_,fun i hi=>?_,C.nd,C.chans,C.wf,C.inj,C.above,C.low,C.Ao,C.ss,C.past,hw⟩
 ·have:=C.idle i g hi hd hg
  cases e:Inb i with
  |none=>rw[e] at this;exact this
  |some s=>rw[e] at this;exact Sits.less hK this
 ·obtain⟨h1,h2,h3,g,h4,h5,h6⟩:=C.dep i hi
  exact⟨h1,h2,h3,g,h4,DP.mono hK _ _ _ h5,h6⟩
theorem C3.raise(C:C3 P K Shun St B Inb Gp h ds sg T gs w q)(hB:B≤B'):C3 P K Shun St B' Inb Gp h ds sg T gs w q:=by
 refine⟨fun i g hi hd hg=>?_,C.dep,C.nd,C.chans,C.wf,C.inj,C.above,fun i s c e hc=>Nat.lt_of_lt_of_le (C.low i s c e hc) hB,C.Ao,C.ss,C.past.mono hB,C.keep⟩;have:=C.idle i g hi hd hg;cases e:Inb i with
 |none=>rw[e] at this;exact this
 |some s=>rw[e] at this;exact Sits.raise hB this
theorem C3.in(C:C3 P K Shun St B Inb Gp h ds sg T gs w q)(hK:K w')(eC:∀i s c,Inb i=some s→s.has c→w'.heap[c]? =w.heap[c]?):C3 P K Shun St B Inb Gp h ds sg T gs w' q:=
 ⟨C.idle,C.dep,C.nd,fun i s c e hc=>by obtain⟨cap,k,hk⟩:=C.chans i s c e hc;exact⟨cap,k,(eC i s c e hc).trans hk⟩,C.wf,C.inj,C.above,C.low,C.Ao,C.ss,C.past,hK⟩
theorem C3.fixed(C:C3 P K Shun St B Inb Gp h ds sg T gs w q){x:Nat}{y:Goroutine}(hx:x≠h)(hy:gs[x]? =some y):y.again w=y:=by
 by_cases hd:x∈ds
 ·obtain⟨_,_,_,g,h4,h5,_⟩:=C.dep x hd
  rw[h4] at hy;obtain rfl:=Option.some.inj hy;exact again_running _ (.inl h5.running)
 have hi:=C.idle x y hx hd hy;cases e:Inb x with
 |none=>rw[e] at hi;exact again_running _ hi.2.status
 |some s=>rw[e] at hi;exact Go.Conc.Sits.again C.keep hi (C.wf x s e) fun c hc=>by obtain⟨cap,k,hk⟩:=C.chans x s c e hc;exact⟨_,_,_,_,_,hk⟩
theorem C3.noSend(C:C3 P K Shun St B Inb Gp h ds sg T gs w q){x:Nat}{y:Goroutine}(hx:x≠h)(hy:gs[x]? =some y)(c:Nat):offersAt y c true=[]:=by
 by_cases hd:x∈ds
 ·obtain⟨_,_,_,g,h4,h5,_⟩:=C.dep x hd
  rw[h4] at hy;obtain rfl:=Option.some.inj hy;exact offersAt_of_not_blocked (by rw[h5.running];simp) c true
 have hi:=C.idle x y hx hd hy;cases e:Inb x with
 |none=>
  rw[e] at hi;exact offersAt_of_not_blocked (fun hb=>by rcases hi.2.status with z|z<;>rw[z] at hb<;>cases hb) c true
 |some s=>
  rw[e] at hi;rcases id hi with ⟨k,w₀,hq,_⟩|⟨_,_,g₂,rfl,_⟩
  ·have:=(Go.Conc.Sits.status C.keep hi).elim (·.1) (fun z=>by omega)
   exact offersAt_of_not_blocked (fun hb=>by rw[this] at hb;cases hb) c true
  ·exact offersAt_parked_sends (fun cc lR=>by obtain⟨c',z',rfl⟩:=(C.wf x s e).recvs cc lR;rfl) _
theorem C3.Nw(C:C3 P K Shun St B Inb Gp h ds sg T gs w q){x:Nat}{y:Goroutine}(hx:x≠h)(hy:gs[x]? =some y){c:Nat}(hc:∀s,Inb x=some s→¬s.has c):offersAt y c false=[]:=by
 by_cases hd:x∈ds
 ·obtain⟨_,_,_,g,h4,h5,_⟩:=C.dep x hd
  rw[h4] at hy;obtain rfl:=Option.some.inj hy;exact offersAt_of_not_blocked (by rw[h5.running];simp) c false
 have hi:=C.idle x y hx hd hy;cases e:Inb x with
 |none=>
  rw[e] at hi;exact offersAt_of_not_blocked (fun hb=>by rcases hi.2.status with z|z<;>rw[z] at hb<;>cases hb) c false
 |some s=>
  rw[e] at hi;rcases id hi with ⟨k,w₀,hq,_⟩|⟨_,_,g₂,rfl,_⟩
  ·have:=(Go.Conc.Sits.status C.keep hi).elim (·.1) (fun z=>by omega)
   exact offersAt_of_not_blocked (fun hb=>by rw[this] at hb;cases hb) c false
  ·refine offersAt_parked_off (fun cc lR ec=>?_) _
   obtain⟨c',z',rfl⟩:=(C.wf x s e).recvs cc lR;simp only[rcase,Value.chan.injEq,Option.some.injEq] at ec;subst ec;exact hc s e (Seat.has_of_mem lR)
theorem C3.awake(C:C3 P K Shun St B Inb Gp h ds sg T gs w q){a:Goroutine}(ha:gs[h]? =some a)(hs:a.status=.running∨a.status=.blocked)(g:Goroutine)(hg:g∈gs):Go.Conc.awake g:=by
 obtain⟨i,Cv⟩:=Array.mem_iff_getElem?.1 hg;refine awake_of ?_
 by_cases e:i=h
 ·rw[e,ha] at Cv
  cases Cv
  exact hs.imp_right .inl
 by_cases hd:i∈ds
 ·obtain⟨_,_,_,g',h4,h5,_⟩:=C.dep i hd
  rw[h4] at Cv;obtain rfl:=Option.some.inj Cv;exact .inl h5.running
 have dz:=C.idle i g e hd Cv
 revert dz
 cases Inb i with
 |none=>exact fun z=>z.2.status.imp_right .inr
 |some s=>exact fun z=>(Go.Conc.Sits.status C.keep z).imp And.left fun y=>.inl y.1
theorem C3.lay(C:C3 P K Shun St B Inb Gp h ds sg T gs w q){i n':Nat}{ops:Array MemOp}{bQ:Array Goroutine}{g':Goroutine}(Cs:i≠h)(dz:i∉ds)(aT:i<gs.size)(cU:bQ.size=gs.size)(jI:∀x,x≠i→bQ[x]? =gs[x]?)(lC:bQ[i]? =some g')(gU:∀op∈ops,op.g=i)(Cu:Idle P K (St i) B (T++ops) i n' g' (Inb i))(hp:P3 Shun St (fun g=>(Inb g).isSome) B h (T++ops)):C3 P K Shun St B Inb Gp h ds sg (T++ops) bQ w (upd q i n'):=by
 refine⟨fun x y hx hd hy=>?_,fun x hx=>?_,C.nd,C.chans,C.wf,C.inj,fun j hj=>?_,C.low,C.Ao,C.ss,hp,C.keep⟩
 ·by_cases e:x=i
  ·subst e
   rw[lC] at hy;obtain rfl:=Option.some.inj hy;rw[upd_same];exact Cu
  ·rw[jI x e] at hy
   rw[upd_ne q n' e];have hi:=C.idle x y hx hd hy;cases es:Inb x with
   |none=>rw[es] at hi;exact⟨hi.1,by rw[Deaf_other T (fun z=>e z.symm) ops gU];exact hi.2⟩
   |some s=>rw[es] at hi;exact hi
 ·have e:x≠i:=fun z=>dz (z▸hx)
  obtain⟨h1,h2,h3,g,h4,h5,h6⟩:=C.dep x hx;exact⟨h1,h2,h3,g,by rw[jI x e];exact h4,by rw[upd_ne q n' e];exact h5,by rw[Deaf_other T (fun z=>e z.symm) ops gU];exact h6⟩
 ·rw[Deaf_other T (g':=i) (by omega) ops gU]
  exact C.above j (by omega)
theorem iC{n i k:Nat}(aT:i<n)(uv:q i=k+1){k':Nat}(hk:k'≤k):sumTo n (upd q i k')<sumTo n q:=by
 have h2:sumTo n (upd q i k')+(k+1)=sumTo n q+k':=by
  have:=sumTo_upd q k' id aT
  simpa [uv] using this
 omega
theorem C3.KH(C:C3 P K Shun St B Inb Gp h ds sg T gs w q){i:Nat}{g:Goroutine}{sl:Option (Nat×Nat)}(hi:gs[i]? =some g)(Cs:i≠h)(dz:i∉ds)(fM:g.status=.running)(hA:∀gx,gs[h]? =some gx→gx.again w=gx)(hO:∀s g₂,Inb i=some s→AtIn P (i==0) K (St i) B s g g₂→∀gx c,gs[h]? =some gx→s.has c→offersAt gx c true=[]):
 ∃(bQ:Array Goroutine)(ops:Array MemOp)(q':Nat→Nat),runT P (crowd gs w sl) i=(.next (crowd bQ w sl),ops)∧(∀op∈ops,op.g=i)∧bQ.size=gs.size∧(∀x,x≠i→bQ[x]? =gs[x]?)∧(∀x,x≠i→q' x=q x)∧(∀s,Inb i=some s→q' i=0→∃g₂,AtIn P (i==0) K (St i) B s g g₂)∧
   C3 P K Shun St B Inb Gp h ds sg (T++ops) bQ w q'∧sumTo gs.size q'<sumTo gs.size q:=by
 have aT:i<gs.size:=(Array.getElem?_eq_some_iff.1 hi).1
 have W5:∀(a':Goroutine)(x:Nat)(y:Goroutine),gs[x]? =some y→woken P g a' w y=y:=fun a' x y hy=>woken_of_again (by
  by_cases hx:x=h
  ·subst hx;exact hA y hy
  ·exact C.fixed hx hy)
 have Kh:∀(g':Goroutine)(x:Nat),x≠i→((gs.map (woken P g g' w)).setIfInBounds i g')[x]? =gs[x]? :=by
  intro g' x hx;rw[Array.getElem?_setIfInBounds_ne (fun e=>hx e.symm),Array.getElem?_map];cases e:gs[x]? with
  |none=>rfl
  |some y=>simp[W5 g' x y e]
 have lC:∀(g':Goroutine),((gs.map (woken P g g' w)).setIfInBounds i g')[i]? =some g':=fun g'=>Array.getElem?_setIfInBounds_self_of_lt (by simpa using aT)
 have hI:=C.idle i g Cs dz hi;cases e:Inb i with
 |none=>
  rw[e] at hI;obtain⟨yU,hq⟩:=hI;have yV:(i==0)=false:=by simp;omega
  cases uv:q i with
  |zero=>rw[uv] at hq;rw[hq.1] at fM;cases fM
  |succ k=>
   rw[uv] at hq;rcases hq with ⟨hf,_⟩|⟨_,g',es,hm,wR,dQ⟩
   ·rw[hf] at fM;cases fM
   refine⟨_,_,upd q i k,runT_crowd_go (sl:=sl) hi (by rw[yV];exact wR w),gr,by simp,Kh _,fun x hx=>upd_ne q k hx,fun s hs _=>(by cases hs),?_,iC aT uv (Nat.le_refl _)⟩;refine C.lay Cs dz aT (by simp) (Kh _) (lC _) gr (by rw[e];exact⟨yU,by rw[Deaf_own];exact dQ⟩) ?_;exact rY C.past gr (fun op aQ b hb=>by obtain⟨e,he,rfl⟩:=Go.Conc.mem_ofEvents aQ;rw[touch_mute (hm e he)] at hb;cases hb) (fun hs=>by rw[e] at hs;cases hs) (fun op aQ=>by obtain⟨e,he,rfl⟩:=Go.Conc.mem_ofEvents aQ;exact low_mute (hm e he) B)
 |some s=>
  rw[e] at hI
  obtain⟨k,w₀,uv,hg⟩:∃k w₀,q i=k+1∧Goes P (i==0) (RK K) (DS (St i) B) (fun g _=>∃g₂,AtIn P (i==0) K (St i) B s g g₂) k g w₀:=by
   rcases hI with x|⟨_,_,g₂,rfl,_⟩
   ·exact x
   ·cases fM
  have nQ:(∃g₂,AtIn P (i==0) K (St i) B s g g₂)∨∃k' g' es,k=k'+1∧stepG P (i==0) g w=.go g' w es∧(∀e∈es,EvC (St i) B e)∧Goes P (i==0) (RK K) (DS (St i) B) (fun g _=>∃g₂,AtIn P (i==0) K (St i) B s g g₂) k' g' w:=by
   cases k with
   |zero=>exact .inl (hg w C.keep)
   |succ k'=>
    rcases hg with Rx|⟨_,eK⟩
    ·exact .inl (Rx w C.keep)
    ·have hs:=eK w C.keep
     cases hgo:stepG P (i==0) g w with
     |go g' w' es=>
      rw[hgo,goes_go] at hs;obtain⟨⟨rfl,fu⟩,XB⟩:=hs;exact .inr ⟨k',g',es,rfl,rfl,fu,XB⟩
     |_=>rw[hgo] at hs;exact hs.elim
  have yT:(Inb i).isSome:=by rw[e];rfl
  have rd:∀{fn:FuncId}{pos:String}{es:Array Event},(∀e∈es,EvC (St i) B e)→P3 Shun St (fun g=>(Inb g).isSome) B h (T++MemOp.ofEvents i fn pos es):=fun{fn pos es} fu=>by
   obtain⟨gU,hr,hl,hd⟩:=evC_ops (i:=i) (fn:=fn) (pos:=pos) fu;exact rY C.past gU (fun op aQ b hb=>⟨(hr op aQ b hb).1,yT,(hr op aQ b hb).2⟩) (fun _=>hd T) hl
  rcases nQ with ⟨g₂,nD⟩|⟨k',g',es,rfl,hgo,fu,XB⟩
  ·have SO:=hO s g₂ e nD
   obtain⟨_,_,_,_,_,es,fu,wR⟩:=id nD
   have hw:∀cc∈s.cases,NoWays w (gs.setIfInBounds i ph) cc:=by
    intro cc lR;obtain⟨c,z,rfl⟩:=(C.wf i s e).recvs cc lR;have Cg:=Seat.has_of_mem lR;obtain⟨cap,kk,hc⟩:=C.chans i s c e Cg;refine ways_recv_none hc (partners_nil fun x y hy=>?_);rcases getElem?_stand gs i x y hy with ⟨_,rfl⟩|⟨hx,Is⟩
    ·exact offersAt_ph _ _
    ·by_cases hS:x=h
     ·subst hS;exact SO y c Is Cg
     ·exact C.noSend hS Is _
   refine⟨_,_,upd q i 0,crowd_waits (sl:=sl) hi (wR w C.keep) hw,gr,by simp,fun x hx=>Array.getElem?_setIfInBounds_ne (fun z=>hx z.symm),fun x hx=>upd_ne q 0 hx,fun s' fJ _=>(by obtain rfl:=Option.some.inj fJ;exact⟨g₂,nD⟩),?_,iC aT uv (Nat.zero_le _)⟩;exact C.lay Cs dz aT (by simp) (fun x hx=>Array.getElem?_setIfInBounds_ne (fun z=>hx z.symm)) (Array.getElem?_setIfInBounds_self_of_lt aT) gr (by rw[e];exact .inr ⟨rfl,g,g₂,rfl,nD⟩) (rd fu)
  ·refine⟨_,_,upd q i (k'+1),runT_crowd_go (sl:=sl) hi hgo,gr,by simp,Kh _,fun x hx=>upd_ne q _ hx,fun s' _ h0=>(by rw[upd_same] at h0;omega),?_,iC aT uv (Nat.le_refl _)⟩
   exact C.lay Cs dz aT (by simp) (Kh _) (lC _) gr (by rw[e];exact .inl ⟨k',w,rfl,XB⟩) (rd fu)
theorem C3.own(C:C3 P K Shun St B Inb Gp h ds sg T gs w q){a a':Goroutine}{es:Array Event}(ha:gs[h]? =some a)(hK:K w')(eC:∀i s c,Inb i=some s→s.has c→w'.heap[c]? =w.heap[c]?)(fu:∀e∈es,xN Shun (oI St (fun g=>(Inb g).isSome)) B h e):
 C3 P K Shun St B Inb Gp h ds sg (T++MemOp.ofEvents h a.frame.fn a.frame.place es) ((gs.map (woken P a a' w')).setIfInBounds h a') w' q∧((gs.map (woken P a a' w')).setIfInBounds h a')[h]? =some a':=by
 have aT:h<gs.size:=(Array.getElem?_eq_some_iff.1 ha).1;have C':=C.in hK eC
 have jI:∀x,x≠h→((gs.map (woken P a a' w')).setIfInBounds h a')[x]? =gs[x]? :=by
  intro x hx;rw[Array.getElem?_setIfInBounds_ne (fun e=>hx e.symm),Array.getElem?_map];cases e:gs[x]? with
  |none=>rfl
  |some y=>simp[woken_of_again (P:=P) (x:=a) (x':=a') (C'.fixed hx e)]
 have hD:∀x,x≠h→Deaf (T++MemOp.ofEvents h a.frame.fn a.frame.place es) x=Deaf T x:=fun x hx=>Deaf_other T (fun z=>hx z.symm) _ gr
 refine⟨⟨fun x y hx hd hy=>?_,fun x hx=>?_,C.nd,C'.chans,C.wf,C.inj,fun j hj=>?_,C.low,C.Ao,C.ss,Ak C.past fu (by rw[C.Ao];simp),hK⟩,Array.getElem?_setIfInBounds_self_of_lt (by simpa using aT)⟩
 ·rw[jI x hx] at hy
  have hi:=C.idle x y hx hd hy;cases e:Inb x with
  |none=>rw[e] at hi;exact⟨hi.1,by rw[hD x hx];exact hi.2⟩
  |some s=>rw[e] at hi;exact hi
 ·obtain⟨h1,h2,h3,g,h4,h5,h6⟩:=C.dep x hx
  exact⟨h1,h2,h3,g,by rw[jI x h1];exact h4,h5,by rw[hD x h1];exact h6⟩
 ·simp only[Array.size_setIfInBounds,Array.size_map] at hj
  rw[hD j (by omega)];exact C.above j hj
end
end
section
open Go.Conc
open Go.ConcN (sumTo upd sumTo_upd upd_ne upd_same)
theorem set_set(w:World)(z:Addr)(u v:Value):(w.setCell z u).setCell z v=w.setCell z v:=by
 refine gp (fun r=>?_) rfl rfl rfl rfl;simp only[heap_set]
 by_cases h:z.block=r<;>simp only[h,if_true,if_false]
 cases w.heap[r]? with
 |none=>rfl
 |some o=>
  cases o with
  |cells c e f=>
   simp only[Option.map_some,nq]
   by_cases h1:z.spot.isSome<;>simp[h1]
  |_=>rfl
theorem H9{w:World}{z:Addr}{v:Value}{c:Nat}(hz:iH w z.block){cap:Nat}{buf:Array Value}{cl:Bool}{x y:Nat}{tm:Bool}(h:w.heap[c]? =some (.chan cap buf cl x y tm)):(w.setCell z v).heap[c]? =w.heap[c]? :=by
 rw[(pg z v hz h (fun _ _ _ e=>by cases e)).2,h]
theorem wy(w:World){z:Addr}{c:Nat}(aN:z.block≠c)(v:Value)(cap:Nat)(buf:Array Value)(cl:Bool)(x y:Nat)(tm:Bool):(w.setCell z v).setChan c cap buf cl x y tm=(w.setChan c cap buf cl x y tm).setCell z v:=by
 refine gp (fun r=>?_) rfl rfl rfl rfl;rw[heap_set]
 by_cases e:c=r
 ·subst e
  rw[if_neg aN];simp only[World.setChan,Array.getElem?_setIfInBounds,if_true];simp[World.setCell]
 ·rw[heap_setChan_ne _ _ _ _ _ _ _ e,heap_set,heap_setChan_ne _ _ _ _ _ _ _ e]
section
variable{P:Program}{K:World→Prop}{Shun:Loc→Prop}{St:Nat→Loc→Prop}{B:Nat}{Inb:Nat→Option Seat}{Gp:rR}{h:Nat}{ds:List Nat}{sg:Nat→Nat}{T:Trace}{gs:Array Goroutine}{w w':World}{q:Nat→Nat}
theorem C3.CL(C:C3 P K Shun St B Inb Gp h ds sg T gs w q){i:Nat}{g g':Goroutine}{es:Array Event}(sl:Option (Nat×Nat))(hi:i∈ds)(Cv:gs[i]? =some g)(bN:stepG P false g w=.go g' w' es)(hK:K w')(eC:∀i s c,Inb i=some s→s.has c→w'.heap[c]? =w.heap[c]?)(fu:∀e∈es,(∀x,(MemAct.ofEvent e).touch? =some x→x.kind=.atomic∧Shun x.loc)∧(MemAct.ofEvent e).low B)(hh:u9 (Deaf T i) es):
 ∃bQ,runT P (crowd gs w sl) i=(.next (crowd bQ w' sl),MemOp.ofEvents i g.frame.fn g.frame.place es)∧bQ.size=gs.size∧(∀x,x≠i→x≠h→bQ[x]? =gs[x]?)∧(∀y,gs[h]? =some y→bQ[h]? =some (woken P g g' w' y))∧bQ[i]? =some g'∧
  (∀n' t',DP P K Gp n' t' g'→deafBehind (Deaf T i) es=dC t'→C3 P K Shun St B Inb Gp h ds (upd sg i t') (T++MemOp.ofEvents i g.frame.fn g.frame.place es) bQ w' (upd q i n'))∧
  (∀n',QuitsD P n' (deafBehind (Deaf T i) es) g'→C3 P K Shun St B Inb Gp h (ds.erase i) sg (T++MemOp.ofEvents i g.frame.fn g.frame.place es) bQ w' (upd q i n')):=by
 have aT:i<gs.size:=(Array.getElem?_eq_some_iff.1 Cv).1;obtain⟨d1,d2,d3,_⟩:=C.dep i hi;have yV:(i==0)=false:=by simp;omega
 have C':=C.in hK eC;have hD:∀x,x≠i→Deaf (T++MemOp.ofEvents i g.frame.fn g.frame.place es) x=Deaf T x:=fun x hx=>Deaf_other T (fun z=>hx z.symm) _ gr
 have hp:=Gh (c:=i) (fn:=g.frame.fn) (pos:=g.frame.place) C.past (fun g l hg hl=>C.ss g l hg hl) fu (by rw[d3];simp) hh
 have jI:∀x,x≠i→x≠h→((gs.map (woken P g g' w')).setIfInBounds i g')[x]? =gs[x]? :=by
  intro x hx LF;rw[Array.getElem?_setIfInBounds_ne (fun e=>hx e.symm),Array.getElem?_map];cases e:gs[x]? with
  |none=>rfl
  |some y=>simp[woken_of_again (P:=P) (x:=g) (x':=g') (C'.fixed LF e)]
 have lC:((gs.map (woken P g g' w')).setIfInBounds i g')[i]? =some g':=Array.getElem?_setIfInBounds_self_of_lt (by simpa using aT)
 have PW:∀j,((gs.map (woken P g g' w')).setIfInBounds i g').size≤j→Deaf (T++MemOp.ofEvents i g.frame.fn g.frame.place es) j=0:=fun j hj=>by
  simp only[Array.size_setIfInBounds,Array.size_map] at hj;rw[hD j (by omega)];exact C.above j hj
 have Cu:∀(n' x:Nat)(y:Goroutine),x≠h→x∉ds→((gs.map (woken P g g' w')).setIfInBounds i g')[x]? =some y→Idle P K (St x) B (T++MemOp.ofEvents i g.frame.fn g.frame.place es) x (upd q i n' x) y (Inb x):=by
  intro n' x y hx hd hy;have PC:x≠i:=fun z=>hd (z▸hi)
  rw[jI x PC hx] at hy;rw[upd_ne q n' PC];have:=C.idle x y hx hd hy;cases e:Inb x with
  |none=>rw[e] at this;exact⟨this.1,by rw[hD x PC];exact this.2⟩
  |some s=>rw[e] at this;exact this
 refine⟨_,runT_crowd_go (sl:=sl) Cv (by rw[yV];exact bN),by simp,jI,fun y hy=>?_,lC,fun n' t' hd vC=>?_,fun n' hq=>?_⟩
 ·rw[Array.getElem?_setIfInBounds_ne d1,Array.getElem?_map,hy];rfl
 ·refine⟨Cu n',fun x hx=>?_,C.nd,C'.chans,C.wf,C.inj,PW,C.low,C.Ao,C.ss,hp,hK⟩
  by_cases e:x=i
  ·subst e
   exact⟨d1,d2,d3,g',lC,by rw[upd_same,upd_same];exact hd,by rw[Deaf_own,upd_same];exact vC⟩
  ·obtain⟨h1,h2,h3,y,h4,h5,h6⟩:=C.dep x hx
   exact⟨h1,h2,h3,y,by rw[jI x e h1];exact h4,by rw[upd_ne q n' e,upd_ne sg t' e];exact h5,by rw[hD x e,upd_ne sg t' e];exact h6⟩
 ·refine⟨fun x y hx hd hy=>?_,fun x hx=>?_,C.nd.erase i,C'.chans,C.wf,C.inj,PW,C.low,C.Ao,C.ss,hp,hK⟩
  ·by_cases e:x=i
   ·subst e
    rw[lC] at hy;obtain rfl:=Option.some.inj hy;rw[d3,upd_same];exact⟨d2,by rw[Deaf_own];exact hq⟩
   ·exact Cu n' x y hx (fun z=>hd ((List.mem_erase_of_ne e).2 z)) hy
  ·have e:x≠i:=fun z=>by subst z;exact(C.nd.mem_erase_iff.1 hx).1 rfl
   obtain⟨h1,h2,h3,y,h4,h5,h6⟩:=C.dep x (List.mem_of_mem_erase hx);exact⟨h1,h2,h3,y,by rw[jI x e h1];exact h4,by rw[upd_ne q n' e];exact h5,by rw[hD x e];exact h6⟩
end
structure GK(K:World→Prop)(Shun:Loc→Prop)(Gp:rR):Prop where
 at':∀w d,K w→K (w.at d)
 st:∀w v,K (w.setCell Gp.st v)↔K w
 row:∀w,K w→iH w Gp.st.block∧(∃v,w.cell? Gp.st=some v)∧w.frozen? Gp.st=false
 sh:Shun (.cell Gp.st)
def Wv(Gp:rR)(w:World)(m:Nat):World:=w.setCell Gp.st (.int .u64 (gv m 0))
section
variable{P:Program}{Post:Value→World→Prop}{K Q:World→Prop}{Shun:Loc→Prop}{St:Nat→Loc→Prop}{B:Nat}{Inb:Nat→Option Seat}{Gp:rR}{h L nb n dl:Nat}{ds:List Nat}{sg:Nat→Nat}{T:Trace}{gs:Array Goroutine}{w w':World}{q:Nat→Nat}{a g:Goroutine}
theorem IY(m:Nat):(Wv Gp w m).heap.size=w.heap.size:=by simp[Wv,World.setCell]
theorem zR(G:GK K Shun Gp)(hK:K w)(m:Nat):jv .u64 Gp.st (Wv Gp w m) (gv m 0):=by
 obtain⟨⟨v,hv⟩,hf⟩:=(G.row w hK).2;exact⟨World.cell?_setCell_same _ _ _ hv,by rw[Wv,World.frozen?_setCell];exact hf⟩
theorem jG(G:GK K Shun Gp){m:Nat}:K (Wv Gp w m)↔K w:=G.st w _
theorem fE(G:GK K Shun Gp)(hK:K w)(m:Nat){c cap k:Nat}(hc:w.heap[c]? =some (.chan cap #[] false k k false)):(Wv Gp w m).heap[c]? =w.heap[c]? :=H9 (G.row w hK).1 hc
theorem oV(G:GK K Shun Gp)(hK:K w)(m:Nat){c cap k:Nat}(hc:(Wv Gp w m).heap[c]? =some (.chan cap #[] false k k false)):w.heap[c]? =some (.chan cap #[] false k k false):=by
 unfold Wv at hc;rw[heap_set] at hc;obtain⟨cs,el,f,hr⟩:=(G.row w hK).1
 by_cases e:Gp.st.block=c
 ·rw[if_pos e,←e,hr] at hc
  simp[nq] at hc
 ·rw[if_neg e] at hc;exact hc
theorem C3.by(G:GK K Shun Gp)(hB:Gp.st.block<B)(hm:L+ds.length≤9)(oL:∀i,i∈ds→sg i≤2)(C:C3 P K Shun St B Inb Gp h ds sg T gs (Wv Gp w (L+ds.length)) q){i:Nat}{sl:Option (Nat×Nat)}(hi:gs[i]? =some g)(Cs:i≠h)(fM:g.status=.running)(hA:∀gx m,gs[h]? =some gx→gx.again (Wv Gp w m)=gx)(hO:∀s g₂,Inb i=some s→AtIn P (i==0) K (St i) B s g g₂→∀gx c,gs[h]? =some gx→s.has c→offersAt gx c true=[]):
 ∃bQ ops q' iU pW,runT P (crowd gs (Wv Gp w (L+ds.length)) sl) i=(.next (crowd bQ (Wv Gp w (L+iU.length)) sl),ops)∧(∀op∈ops,op.g=i)∧bQ.size=gs.size∧bQ[h]? =gs[h]? ∧(∀x,x≠i→q' x=q x)∧(∀s,Inb i=some s→q' i=0→∃g₂,AtIn P (i==0) K (St i) B s g g₂)∧
  C3 P K Shun St B Inb Gp h iU pW (T++ops) bQ (Wv Gp w (L+iU.length)) q'∧(∀i,i∈iU→pW i≤2)∧iU.length≤ds.length∧sumTo gs.size q'<sumTo gs.size q:=by
 have Md:K w:=(jG G).1 C.keep
 by_cases dz:i∈ds
 ·obtain⟨d1,d2,d3,g',d4,d5,d6⟩:=C.dep i dz
  rw[hi] at d4;obtain rfl:=Option.some.inj d4;have aT:i<gs.size:=(Array.getElem?_eq_some_iff.1 hi).1;obtain⟨k,uv,hD⟩:=d5.inv
  have wk:∀(a':Goroutine)(m:Nat)(bQ:Array Goroutine),(∀y,gs[h]? =some y→bQ[h]? =some (woken P g a' (Wv Gp w m) y))→bQ.size=gs.size→bQ[h]? =gs[h]? :=fun a' m bQ hy cU=>by
   cases e:gs[h]? with
   |none=>rw[Array.getElem?_eq_none_iff] at e ⊢;omega
   |some y=>rw[hy y e,woken_of_again (hA y m e)]
  have still:∀(a':Goroutine)(es:Array Event)(t':Nat),stepG P false g (Wv Gp w (L+ds.length))=.go a' (Wv Gp w (L+ds.length)) es→(∀e∈es,(∀x,(MemAct.ofEvent e).touch? =some x→x.kind=.atomic∧Shun x.loc)∧(MemAct.ofEvent e).low B)→u9 (Deaf T i) es→DP P K Gp k t' a'→deafBehind (Deaf T i) es=dC t'→t'≤2→
   ∃bQ ops q' iU pW,runT P (crowd gs (Wv Gp w (L+ds.length)) sl) i=(.next (crowd bQ (Wv Gp w (L+iU.length)) sl),ops)∧(∀op∈ops,op.g=i)∧bQ.size=gs.size∧bQ[h]? =gs[h]? ∧(∀x,x≠i→q' x=q x)∧(∀s,Inb i=some s→q' i=0→∃g₂,AtIn P (i==0) K (St i) B s g g₂)∧
   C3 P K Shun St B Inb Gp h iU pW (T++ops) bQ (Wv Gp w (L+iU.length)) q'∧(∀i,i∈iU→pW i≤2)∧iU.length≤ds.length∧sumTo gs.size q'<sumTo gs.size q:=by
   intro a' es t' bN fu Se hd vC ht;obtain⟨bQ,e1,e2,e3,e4,e5,e6,_⟩:=C.CL sl dz hi bN C.keep (fun _ _ _ _ _=>rfl) fu Se;refine⟨bQ,_,upd q i k,ds,upd sg i t',e1,gr,e2,wk a' _ bQ e4 e2,fun x hx=>upd_ne q k hx,fun s hs=>(by rw[d3] at hs;cases hs),e6 k t' hd vC,fun x hx=>?_,Nat.le_refl _,iC aT uv (Nat.le_refl _)⟩
   by_cases e:x=i
   ·subst e;rw[upd_same];exact ht
   ·rw[upd_ne sg t' e];exact oL x hx
  have h2:=oL i dz;rcases hD with ⟨_,a',bN,hn⟩|⟨ht,_,a',bN,hn⟩|⟨ht,_,a',bN,hn⟩|⟨ht,_,Kj,_⟩|⟨ht,_⟩|⟨ht,_⟩|⟨ht,_⟩
  ·exact still a' _ _ (bN _ C.keep) tX (iX tX) hn (by rw[d6];rfl) h2
  ·exact still a' _ 1 (bN _ C.keep) (dF (kJ rfl hB)) (iX (dF rfl)) hn (by rw[d6,ht];rfl) (by omega)
  ·exact still a' _ 2 (bN _ C.keep) (dF (kJ rfl trivial)) (iX (dF rfl)) hn (by rw[d6,ht];rfl) (by omega)
  ·obtain⟨m,N8⟩:∃m,L+ds.length=m+1:=⟨L+ds.length-1,by have:=List.length_pos_of_mem dz;omega⟩
   obtain⟨a',bN,hq⟩:=Kj m 0 (by omega) (by omega) (.inl rfl);have hlen:L+(ds.erase i).length=m:=by rw[List.length_erase_of_mem dz];have:=List.length_pos_of_mem dz;omega
   have uO:=bN _ C.keep (by rw[N8];exact zR G Md _);rw[show(Wv Gp w (L+ds.length)).setCell Gp.st (.int .u64 (gv m 0))=Wv Gp w m from set_set _ _ _ _] at uO;rw[ht] at d6
   obtain⟨bQ,e1,e2,e3,e4,e5,_,e7⟩:=C.CL sl dz hi uO ((jG G).2 Md) (fun x s c hx hc=>by
    obtain⟨cap,kk,hk⟩:=C.chans x s c hx hc;have hb:=oV G Md _ hk;rw[fE G Md _ hb,fE G Md _ hb]) (qE (cS G.sh hB) (cS G.sh hB)) (mY (by rw[d6];decide) (by intro e he;simp at he;rcases he with rfl|rfl<;>simp))
   refine⟨bQ,_,upd q i k,ds.erase i,sg,by rw[hlen];exact e1,gr,e2,wk a' _ bQ e4 e2,fun x hx=>upd_ne q k hx,fun s hs=>(by rw[d3] at hs;cases hs),by rw[hlen];exact e7 k (by rw[d6];exact hq),fun x hx=>oL x (List.mem_of_mem_erase hx),List.length_erase_le,iC aT uv (Nat.le_refl _)⟩
  ·omega
  ·omega
  ·omega
 ·obtain⟨bQ,ops,q',e1,e2,e3,e4,e5,e6,e7,e8⟩:=C.KH (sl:=sl) hi Cs dz fM (fun gx hx=>hA gx _ hx) hO
  exact⟨bQ,ops,q',ds,sg,e1,e2,e3,e4 h (fun z=>Cs z.symm),e5,e6,e7,oL,Nat.le_refl _,e8⟩
theorem mT(G:GK K Shun Gp)(hB:Gp.st.block<B)(gS:nb≤9)(hs:a.status=.running):∀(μ:Nat)(gs:Array Goroutine)(T:Trace)(q:Nat→Nat)(sl:Option (Nat×Nat))(d₀:Nat)(ds:List Nat)(sg:Nat→Nat),sumTo gs.size q=μ→gs[h]? =some a→L+ds.length≤nb→(∀i,i∈ds→sg i≤2)→C3 P K Shun St B Inb Gp h ds sg T gs (Wv Gp (w.at d₀) (L+ds.length)) q→
 ∃N bQ d₁ d sl₁ fN T' q' iU pW,runNT P N (crowd gs (Wv Gp (w.at d₀) (L+ds.length)) sl) T=(.next (crowd bQ (Wv Gp (w.at d₁) (L+iU.length)) sl₁),T')∧stepT P (crowd bQ (Wv Gp (w.at d₁) (L+iU.length)) sl₁)=runT P (crowd bQ (Wv Gp (w.at d) (L+iU.length)) fN) h∧bQ.size=gs.size∧bQ[h]? =some a∧L+iU.length≤nb∧(∀i,i∈iU→pW i≤2)∧
  C3 P K Shun St B Inb Gp h iU pW T' bQ (Wv Gp (w.at d) (L+iU.length)) q'∧Deaf T' h=Deaf T h:=by
 intro μ
 induction μ using Nat.strongRecOn with
 |_ μ ih=>
  intro gs T q sl d₀ ds sg hμ ha hL oL C;obtain⟨i,g,d,fN,hi,hg,tL⟩:=crowd_pick (P:=P) (w:=Wv Gp (w.at d₀) (L+ds.length)) (sl:=sl) (C.awake ha (.inl hs)) ⟨h,a,ha,hs⟩;have oA:stepT P (crowd gs (Wv Gp (w.at d₀) (L+ds.length)) sl)=runT P (crowd gs (Wv Gp (w.at d) (L+ds.length)) fN) i:=tL;have Cd:C3 P K Shun St B Inb Gp h ds sg T gs (Wv Gp (w.at d) (L+ds.length)) q:=C.in (G.at' _ d C.keep) (fun _ _ _ _ _=>rfl)
  by_cases e:i=h
  ·subst e
   exact⟨0,gs,d₀,d,sl,fN,T,q,ds,sg,rfl,oA,rfl,ha,hL,oL,Cd,rfl⟩
  ·obtain⟨bQ,ops,q',iU,pW,sv,gU,cU,G8,_,_,C',NU,hle,aT⟩:=Cd.by (sl:=fN) G hB (by omega) oL hi e hg (fun gx m vB=>by rw[ha] at vB;obtain rfl:=Option.some.inj vB;exact again_running _ (.inl hs))
    (fun s g₂ _ _ gx c vB _=>by rw[ha] at vB;obtain rfl:=Option.some.inj vB;exact offersAt_of_not_blocked (by rw[hs];simp) _ _)
   obtain⟨N,A0,d₁,d₂,sl₁,sl₂,T',Ni,XX,Vw,h1,h2,h3,h4,h5,h6,h7,h8⟩:=ih (sumTo bQ.size q') (by rw[cU];omega) bQ _ q' fN d iU pW rfl (by rw[G8];exact ha) (by omega) NU C';exact⟨N+1,A0,d₁,d₂,sl₁,sl₂,T',Ni,XX,Vw,by simp only[runNT,oA,sv];exact h1,h2,by rw[h3,cU],h4,h5,h6,h7,by rw[h8];exact Deaf_other T e _ gU⟩
def gG(P:Program)(Post:Value→World→Prop)(K Q:World→Prop)(Shun:Loc→Prop)(St:Nat→Loc→Prop)(Inb:Nat→Option Seat)(Gp:rR)(L nb h n dl:Nat)(g:Goroutine)(w:World):Prop:=
 ∀(d:Nat)(gs:Array Goroutine)(T:Trace)(q:Nat→Nat)(sl:Option (Nat×Nat))(ds:List Nat)(sg:Nat→Nat),gs.size=n→gs[h]? =some g→L+ds.length≤nb→(∀i,i∈ds→sg i≤2)→Q w→Deaf T h=dl→
   C3 P K Shun St w.heap.size Inb Gp h ds sg T gs (Wv Gp (w.at d) (L+ds.length)) q→Goal P Post (crowd gs (Wv Gp (w.at d) (L+ds.length)) sl) T
theorem gG.go(G:GK K Shun Gp)(gS:nb≤9)(hs:a.status=.running)(hQ:∀w d,Q w→Q (w.at d))(eK:∀d,K (w.at d)→Q (w.at d)→∃g' w' es,(∀m,stepG P (h==0) a (Wv Gp (w.at d) m)=.go g' (Wv Gp w' m) es)∧K w'∧Q w'∧(∀(c cap k:Nat),w.heap[c]? =some (Obj.chan cap #[] false k k false)→w'.heap[c]? =w.heap[c]?)∧w.heap.size≤w'.heap.size∧
 (∀e∈es,xN Shun (oI St (fun g=>(Inb g).isSome)) w'.heap.size h e)∧gG P Post K Q Shun St Inb Gp L nb h n (deafBehind dl es) g' w'):gG P Post K Q Shun St Inb Gp L nb h n dl a w:=by
 intro d₀ gs T q sl ds sg hn ha hL oL hq hd C;have hB:Gp.st.block<w.heap.size:=(G.row _ ((jG G).1 C.keep)).1.lt;obtain⟨N,bQ,d₁,d,sl₁,fN,T',q',iU,pW,e1,e2,e3,e4,e5,e6,e7,e8⟩:=mT G hB gS hs _ gs T q sl d₀ ds sg rfl ha hL oL C;have eU:K (w.at d):=(jG G).1 e7.keep;obtain⟨g',w',es,s1,s2,s3,s4,s5,s6,s7⟩:=eK d eU (hQ _ _ hq)
 obtain⟨C',mA⟩:=(e7.raise s5).own (a':=g') (w':=Wv Gp w' (L+iU.length)) e4 ((jG G).2 s2) (fun i s c hx hc=>by
  obtain⟨cap,k,hk⟩:=e7.chans i s c hx hc;have hb:=oV G eU _ hk;have zK:w.heap[c]? =some (.chan cap #[] false k k false):=hb;have yR:=s4 c cap k zK;rw[fE G eU _ hb,fE G s2 _ (yR.trans zK)];exact yR) s6
 refine Goal.back (l6 e1 (e2.trans (runT_crowd_go (sl:=fN) e4 (s1 _)))) ?_;exact s7 w'.drawn _ _ _ fN iU pW (by simp[e3,hn]) mA e5 e6 s3 (by rw[Deaf_own,e8,hd]) C'
theorem KP{D:World→World→Array Event→Prop}(G:GK K Shun Gp)(gS:nb≤9)(hQ:∀w d,Q w→Q (w.at d))(hD:∀w w' es,D w w' es→DR K Shun (oI St (fun g=>(Inb g).isSome)) h w w' es∧(Q w→Q w'))(hi:∀w d,D w (w.at d) #[])(hl:∀w w' es iJ,D w w' es→(∀e∈iJ,e∈es)→D w w' iJ)(Cf:Ik D Gp.st):
 aC P (h==0) D (gG P Post K Q Shun St Inb Gp L nb h n dl):=by
 refine⟨fun g w d x d' gs T q sl ds sg h1 h2 h3 h4 h5=>x d' gs T q sl ds sg h1 h2 h3 h4 (hQ (w.at d) w.drawn h5),hi,hl,fun g w hs bN=>?_⟩;refine gG.go G gS hs hQ fun d hK hq=>?_
 obtain⟨g',w',es,f1,f2,f3,f4⟩:=bN d;obtain⟨r,rQ⟩:=hD _ _ _ f2;refine⟨g',w',es,fun m=>f4 _ _ Cf (G.row _ hK).1,r.keep hK,rQ hq,fun c cap k hc=>r.chan c cap k hc,r.size,fun e he=>(r.ev e he).1,?_⟩;rw[deafBehind_still (fun e he=>(r.ev e he).2)];exact f3
end
end
end Go.Proofs.YtobagnjnbmgidaaGreatDoor
