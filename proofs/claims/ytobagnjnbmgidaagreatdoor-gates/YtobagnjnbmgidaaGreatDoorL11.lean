/- Gates holds of the landed code: for every list of layers and every list of clients that may lie in memory, and on every schedule, the law returns true, without a data race, and leaves both arguments as they read before; at the return every other goroutine has ended or is only leaving.
Conditions: those of the given row and its card alone (the package-level variable errors.errorType starts as the program's text lays it, which the given tie shows; nothing else is asked). -/
import Derived.Test.YtobagnjnbmgidaaGreatDoorL1
import Derived.Test.YtobagnjnbmgidaaGreatDoorTie
import Derived.Test.YtobagnjnbmgidaaGreatDoorCards
import Derived.ChangeBook
import Derived.ChangeSame
import Derived.LaidLaws
import Derived.LaidHandle
import Derived.JoinedOf
import Derived.ChangeVars
import Derived.Stop.Joined
set_option linter.all false
set_option maxRecDepth 100000
namespace Go.Proofs.YtobagnjnbmgidaaGreatDoor
open Go.Conc Go.RowKit Go.ChangeShapes Go.WideShapes
variable{c0 fuel n:Nat}{W:aj}{v:ay}
variable{H:Type}{enc:TypeId×Value->H}
theorem UY:Tryz.prog.underlying 22=some (.slice 51):=by kernel_rfl
theorem f51:jS Tryz.prog 51=[(3,0),(3,1),(3,2),(3,3),(3,4),(3,5)]:=by kernel_rfl
theorem c51:Tryz.prog.cellsOf 51=6:=by kernel_rfl
theorem b51:Tryz.prog.bytesOf 51=48:=by kernel_rfl
theorem Dv{enc:TypeId×Value->H}{sp:rm}{a:Bool}{cs:iG}{x:DataW H×List MemPlace}(h:DataW.trod enc Tryz.prog W 0 sp a fuel 22 cs=some x):∃sa n cap L,cs=[.slice sa n cap]/\nJ W sa n L:=
 uK UY c51 (by decide) (λj hj=>by rw[f51];match j,hj with|0,_=>rfl|1,_=>rfl|2,_=>rfl|3,_=>rfl|4,_=>rfl|5,_=>rfl) h
theorem Gm{enc:TypeId×Value->H}{sp:rm}{l:Bool}{i:eN}{d:DataW H}{j:List MemPlace}{g:List TypeId}{ds:List (DataW H)}(h:DataW.trod enc Tryz.prog W 0 sp l fuel 22 [.slice i n c0]=some (d,j))(b:(DataW.weightsEach Tryz.prog (22::g) (d::ds)).all (·<=reachBytes)=true):n<2932031007403:=by
 rcases DataW.trod_slice UY h with ⟨e,_⟩|⟨a,len,cap,elems,rest,k,_,e,ex,_,_,_,c,_⟩
 .simp only[List.cons.injEq,Value.slice.injEq,and_true]at e
  omega
 .simp only[List.cons.injEq,Value.slice.injEq,and_true]at e
  obtain⟨_,rfl,_⟩:=e;simp only[Prod.mk.injEq]at ex;obtain⟨rfl,_⟩:=ex;rw[DataW.weightsEach,DataW.weights,UY,List.all_append,cq]at b;have f:=b.1;simp only[List.all_cons,cq,decide_eq_true_eq,b51,List.length_map]at f;have m:=f.1;unfold reachBytes at m;omega
theorem laidOut:laidOutB Tryz.prog=true:=by kernel_rfl
theorem Lp:Tryz.prog.readableRec 22=true:=by kernel_rfl
theorem Ln:Tryz.prog.readableRec 23=true:=by kernel_rfl
theorem Rm:22<Tryz.prog.types.size:=MD (by kernel_rfl)
theorem Rl:23<Tryz.prog.types.size:=MD (by kernel_rfl)
theorem params7:Tryz.f7.params=#[22,23]:=by kernel_rfl
theorem results7:Tryz.f7.resultTypes=#[4]:=by kernel_rfl
theorem u4:Tryz.prog.underlying 4=some .bool:=by kernel_rfl
theorem Hw:Tryz.prog.globalNamed "errors.errorType" =some 0:=by kernel_rfl
theorem Nt:(Tryz.prog.cutTypes.find? (·.1== "internal/reflectlite.rtype")).map (·.2)=some 217:=by kernel_rfl
theorem NR:((List.range Tryz.prog.types.size).filter λt=>Tryz.prog.rowNamed t [101,114,114,111,114])=[121]:=by kernel_rfl
theorem IQ{e:aj}{b:rm}{d:DataW H}{c:List MemPlace}(h:DataW.Trod enc Tryz.prog W 0 (λ_=>true) true 22 v d c)(a:∀p∈c,W.sameAt e p)(f:∀p∈c,b p.block=true):DataW.Trod enc Tryz.prog e 0 b true 22 v d c:=by
 obtain⟨n,h⟩:=h;exact⟨n,DataW.trod_stays (kids_book laidOut Lp) (book_sized Lp) (λh=>by cases h) ⟨Rm,book_self 22⟩ h a f⟩
theorem IP{e:aj}{b:rm}{d:DataW H}{c:List MemPlace}(h:DataW.Trod enc Tryz.prog W 0 (λ_=>true) true 23 v d c)(a:∀p∈c,W.sameAt e p)(f:∀p∈c,b p.block=true):DataW.Trod enc Tryz.prog e 0 b true 23 v d c:=by
 obtain⟨n,h⟩:=h;exact⟨n,DataW.trod_stays (kids_book laidOut Ln) (book_sized Ln) (λh=>by cases h) ⟨Rl,book_self 23⟩ h a f⟩
theorem AE{r:aj}{args:fW}{ds o:List (DataW H)}{before:List MemPlace}(e:DataW.Whole enc Tryz.prog Tryz.f7.params.toList Rows.gatesSpec.vars false W args.toList ds o before)(c:Below W.heap.size W r):
 Rows.gatesSpec.post enc Tryz.prog Tryz.f7 false true false false W args (.bool true) r:=by
 have d:=e;have b:=e.lt;obtain⟨p,q,g,f,rfl,t,s⟩:=e;have m:DataW.TrodAll enc Tryz.prog W 0 (λ_=>true) true Tryz.f7.params.toList args.toList ds p:=g;rw[params7]at m;obtain⟨z,y,d1,d2,j,i,rfl,rfl,rfl,x,w⟩:=trodAll_two m;have u:DataW.TrodVars enc Tryz.prog W (λ_=>true) [] o q:=f;obtain⟨rfl,rfl⟩:=trodVars_none u;have l:∀p∈j,p.block<W.heap.size:=λp a=>b p (by simp[a])
 have k:∀p∈i,p.block<W.heap.size:=λp a=>b p (by simp[a])
 refine⟨_,_,_,[],j++i,[],d,?_,?_,rfl,c.frame _,λh=>by cases h⟩
 .rw[results7]
  exact trodAll_mk1 (shut_bool u4 true)
 .rw[params7]
  exact trodAll_mk2 (IQ x (λp a=>c.same (l p a)) (λp a=>by simpa using l p a)) (IP w (λp a=>c.same (k p a)) (λp a=>by simpa using k p a))
theorem sG(h:laidMetH Tryz.prog Rows.gatesRow.laid W):W.cell? ⟨0,0,none⟩=some (.iface 217 (.agg #[.pointer (some ⟨1,121,none⟩)])):=by
 have d:laidMet Tryz.prog [] W/\handlesMet Tryz.prog Rows.gatesRow.laid W:=h;obtain⟨name,u,ty,e1,e2,f,e,b⟩:=d.2 _ (xm.2 rfl);have en:name=[101,114,114,111,114]:=(Option.some.inj e1).symm;subst en;obtain rfl:=Option.some.inj (Nt.symm.trans e2);have a:ty∈(List.range Tryz.prog.types.size).filter λt=>Tryz.prog.rowNamed t [101,114,114,111,114]:=mO.2 ⟨bp.2 f,e⟩
 rw[NR]at a;obtain rfl:=xm.1 a;have c:typeHandle Tryz.prog 121=.pointer (some ⟨1,121,none⟩):=by kernel_rfl
 rw[c]at b
 simpa using World.var?_cell Hw b 0
theorem DT{a sa:eN}{m cap:Nat}{L:oO}{g:Nat->Cl}(h:Ei W a n L sa m g):
 Goal Tryz.prog (λv b=>v=.bool true/\Below W.heap.size W b) (solo (G (Frame.enter Tryz.prog 7 #[.slice a n c0,.slice sa m cap] .normal) []) W) #[]:=
 AD (K:=Old W) (Old.of (Below.refl _ _)) (λx h=>h) (Hh h (λw' ho=>⟨rfl,ho.below⟩))
set_option maxRecDepth 100000 in
theorem xL{base:Nat}{t e:TypeId}(b:Tryz.prog.underlying t=some (.slice e))(h:Value.okWide Tryz.prog W .any base t v):∃sa n cap,v=.slice sa n cap/\∀p:Addr,sa=some p->p.block<W.heap.size:=by
 cases v<;>simp[Value.okWide,Cell.okWide,Cell.ok,b]at h
 rename_i sa n cap
 refine⟨sa,n,cap,rfl,λp d=>?_⟩;subst d;simp[Value.okWide,Cell.okWide,Cell.ok,b,World.has]at h;obtain⟨_,_,_,_,row,cells,a,_⟩:=h;unfold World.shape? at a;cases c:W.heap[p.block]? with
 |none=>rw[c]at a;simp at a
 |some o=>exact(cH.1 c).1
theorem FX:ownKnob Tryz.prog.godebug=none:=by kernel_rfl
def GV(w:aj):World:={w with heap:=w.heap.modify 0 λo=>match o with|.cells _ t fr=>.cells #[.iface 217 (.agg #[.pointer (some ⟨1,121,none⟩)])] t fr|o=>o}
theorem GU(os:Os)(args:fW):laidMetH Tryz.prog Rows.gatesRow.laid ((GV (World.holding Tryz.prog os ⟨#[],#[],[]⟩)).forCall (λ_ _=>0) ⟨#[],args,[]⟩).memory:=
 laidMetH_of_parts (laidMet_nil _ _) (by kernel_rfl)
set_option maxRecDepth 100000 in
theorem wy(os:Os)(started:os.Started)(H:Type)(enc:TypeId×Value->H):
 ReturnsInLeavingWide {} Tryz.checked os 7 .any (λw args=>(Rows.gatesSpec.pre enc Tryz.prog Tryz.f7 [] false w args/\laidMetH Tryz.prog Rows.gatesRow.laid w)/\sizedMet enc Tryz.prog Tryz.f7 (OpenSpec.ofChange Rows.gatesSpec) false w args)
  (Rows.gatesSpec.post enc Tryz.prog Tryz.f7 false true false false):=by
 refine returnsInLeavingWide_of_good (C:=Tryz.checked) FX started
  (ChangeSpec.witness_at (enc:=enc) (C:=Tryz.checked) (os:=os) (X:=λw _=>laidMetH Tryz.prog Rows.gatesRow.laid w) false (GV (World.holding Tryz.prog os ⟨#[],#[],[]⟩)) #[.slice none 0 0,.slice none 0 0] 8 rfl (by kernel_rfl) (by kernel_rfl) (by kernel_rfl) (by kernel_rfl) (by kernel_rfl) (GU os _)) ?_
 intro w tape i _ _ _ B h y;obtain⟨_,_,_,F,l,_,_,_,_,f⟩:=B;obtain rfl:Tryz.f7=F:=Option.some.inj (Tryz.func7.symm.trans l);obtain⟨⟨⟨ds,gs,before,G,hc⟩,hx⟩,hz⟩:=h;have e:=DataW.Whole.of_heap (w':=w.forCall tape i) (by rfl) G;have hL:laidMetH Tryz.prog Rows.gatesRow.laid (w.forCall tape i):=hx.of_heap (by rfl);have I:=sG hL;have d:=hz.weights G;generalize w.forCall tape i=W at*;have K:=e;obtain⟨p,q,E,hV0,rfl,SV,Qj⟩:=e;have M:DataW.TrodAll enc Tryz.prog W 0 (λ_=>true) true Tryz.f7.params.toList i.args.toList ds p:=E;rw[params7]at M;obtain⟨Q,P,d1,d2,p1,p2,J,rfl,rfl,⟨n1,O⟩,⟨n2,h2⟩⟩:=trodAll_two M;rw[params7]at d;have a:∀(j:Nat) t v,Tryz.f7.params[j]? =some t->i.args[j]? =some v->Value.okWide Tryz.prog W .any w.heap.size t v:=f;rw[params7,J]at a;obtain⟨sL,n,cr,rfl,bL⟩:=xL UY (a 0 22 Q rfl rfl);obtain⟨sa,m,cap,rfl,bC⟩:=xL Zu (a 1 23 P rfl rfl);obtain⟨A,Y,c,L,e1,D⟩:=Dv O;obtain⟨z,Z,cap',g,e2,r⟩:=vP h2;have u:[Value.slice sL n cr]=[.slice A Y c]:=e1;have s:[Value.slice sa m cap]=[.slice z Z cap']:=e2;simp only[List.cons.injEq,Value.slice.injEq,and_true]at u s;obtain⟨rfl,rfl,rfl⟩:=u;obtain⟨rfl,rfl,rfl⟩:=s
 have bT:∀i,i<m->0<(g i).nt->∀p:Addr,(g i).ta=some p->p.block<W.heap.size:=λk hk h0 p x=>by
  obtain⟨b,o,_,_,_,hT⟩:=r k hk;obtain⟨b',o',e3,h3⟩:=hT 0 h0;rw[e3]at x;cases x
  exact au (h3 0 (by decide))
 obtain⟨N,last,o,w',R,V,U,T,S⟩:=DT (c0:=cr) (cap:=cap) ⟨D,bL,Gm O d,r,bC,bT,au I,I⟩;rw[J]at K ⊢;refine⟨N,last,o,w',R,V,U,T,S.mono λv x=>?_⟩;obtain⟨rfl,hb⟩:=x;exact ChangeSpec.post_blind (AE K hb)
theorem yI:Rows.GatesSaid:=
 OpenClaim.holds_of_wide_leaving 7 Tryz.f7 rfl rfl rfl rfl rfl rfl rfl ⟨rfl,rfl,rfl,rfl,rfl⟩ rfl rfl rfl rfl rfl (by kernel_rfl) Tryz.func7 (by kernel_rfl)
  (MD (by kernel_rfl)) (by unfold Func.isWrapper;first|(rw[ah (by decide+kernel)];kernel_rfl)|(rw[af (by decide+kernel)];exact⟨rfl,rfl⟩))
  (λos started H enc _=>wy os started H enc)
theorem gates_card:Rows.GatesCardSaid:=by
 have hl:∀f fn,Tryz.pinned.checked.prog.funcNamed Rows.gatesRow.func=some f->Tryz.pinned.checked.prog.funcs[f]? =some fn->true=Tryz.pinned.checked.prog.looks []/\∀(j:Nat) t,fn.params[j]? =some t->Tryz.pinned.checked.prog.wantsStandIn t=false:=λf fn c b=>by
  obtain rfl:f=7:=Option.some.inj ((show Tryz.prog.funcNamed Tryz.f7.name=some 7 by kernel_rfl).symm.trans c)|>.symm;obtain rfl:fn=Tryz.f7:=(Option.some.inj (Tryz.func7.symm.trans b)).symm
  exact⟨by kernel_rfl,λj t a=>by
   rw[params7]at a
   have e:t=22\/t=23:=by
    rcases j with _|_|j
    .left;simpa using a.symm
    .right;simpa using a.symm
    .simp at a
   rcases e with rfl|rfl
   .exact(show Tryz.prog.wantsStandIn 22=false by kernel_rfl)
   .exact(show Tryz.prog.wantsStandIn 23=false by kernel_rfl)⟩
 have g:=Claim7.tied_new_at .later [LaidKind.handle] true (Claim7.new_of_sixth yI (true, "0c89c787d4b98a4316ae03ebdf8092ff43dc2c86c76f3ceb993ca0c048420df6") true rfl ⟨rfl,rfl⟩ (by kernel_rfl) (by rfl) hl) (by kernel_rfl);exact⟨g,(λD d=>by cases d),gates_row_tie,(λh=>by cases h),(by kernel_rfl)⟩
end Go.Proofs.YtobagnjnbmgidaaGreatDoor
