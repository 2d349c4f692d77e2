/- Rooms holds of the landed code: for every list of layers and every list of clients that may lie in memory, and on every schedule, the law returns true, without a data race, and leaves both arguments as they read before; at the return every other goroutine has ended or is only leaving.
Conditions: those of the given row and its card alone (the package-level variable errors.errorType starts as the program's text lays it, which the given tie shows; nothing else is asked). -/
import Derived.Test.YtobagnjnbmgidaaGreatDoorL1
import Derived.Test.YtobagnjnbmgidaaGreatDoorTie
import Derived.Test.YtobagnjnbmgidaaGreatDoorCards
import Derived.ChangeBook
import Derived.ChangeSame
import Derived.LaidLaws
import Derived.LaidHandle
import Derived.JoinedOf
import Derived.ChangeVars
import Derived.Stop.Joined
set_option linter.all false
set_option maxRecDepth 100000
namespace Go.Proofs.YtobagnjnbmgidaaGreatDoor
open Go.Conc Go.RowKit Go.ChangeShapes Go.WideShapes
variable{c0 c n:Nat}{W:aj}{v:ay}
variable{H:Type}{enc:TypeId×Value->H}
theorem SZ:Tryz.prog.underlying 22=some (.slice 51):=by kernel_rfl
theorem f51:jR Tryz.prog 51=[(3,0),(3,1),(3,2),(3,3),(3,4),(3,5)]:=by kernel_rfl
theorem c51:Tryz.prog.cellsOf 51=6:=by kernel_rfl
theorem b51:Tryz.prog.bytesOf 51=48:=by kernel_rfl
theorem Cz{enc:TypeId×Value->H}{sp:qS}{a:Bool}{b:iO}{x:DataW H×List MemPlace}(h:DataW.trod enc Tryz.prog W 0 sp a c 22 b=some x):∃a n cap L,b=[.slice a n cap]/\nF W a n L:=
 uA SZ c51 (by decide) (λj a=>by rw[f51];match j,a with|0,_=>rfl|1,_=>rfl|2,_=>rfl|3,_=>rfl|4,_=>rfl|5,_=>rfl) h
theorem FH{enc:TypeId×Value->H}{sp:qS}{l:Bool}{i:eP}{d:DataW H}{j:List MemPlace}{g:List TypeId}{ds:List (DataW H)}(h:DataW.trod enc Tryz.prog W 0 sp l c 22 [.slice i n c0]=some (d,j))(b:(DataW.weightsEach Tryz.prog (22::g) (d::ds)).all (·<=reachBytes)=true):n<2932031007403:=by
 rcases DataW.trod_slice SZ h with ⟨e,_⟩|⟨a,len,cap,elems,rest,k,_,e,ex,_,_,_,a,_⟩
 .simp only[List.cons.injEq,Value.slice.injEq,and_true]at e;omega
 .simp only[List.cons.injEq,Value.slice.injEq,and_true]at e;obtain⟨_,rfl,_⟩:=e;simp only[Prod.mk.injEq]at ex;obtain⟨rfl,_⟩:=ex;rw[DataW.weightsEach,DataW.weights,SZ,List.all_append,bZ]at b;have f:=b.1;simp only[List.all_cons,bZ,decide_eq_true_eq,b51,List.length_map]at f;have m:=f.1;unfold reachBytes at m;omega
theorem laidOut:laidOutB Tryz.prog=true:=by kernel_rfl
theorem Km:Tryz.prog.readableRec 22=true:=by kernel_rfl
theorem Kl:Tryz.prog.readableRec 23=true:=by kernel_rfl
theorem Pt:22<Tryz.prog.types.size:=Lv (by kernel_rfl)
theorem Pr:23<Tryz.prog.types.size:=Lv (by kernel_rfl)
theorem params8:Tryz.f8.params=#[22,23]:=by kernel_rfl
theorem results8:Tryz.f8.resultTypes=#[4]:=by kernel_rfl
theorem u4:Tryz.prog.underlying 4=some .bool:=by kernel_rfl
theorem Gv:Tryz.prog.globalNamed "errors.errorType" =some 0:=by kernel_rfl
theorem Mk:(Tryz.prog.cutTypes.find? (·.1== "internal/reflectlite.rtype")).map (·.2)=some 217:=by kernel_rfl
theorem MG:((List.range Tryz.prog.types.size).filter λt=>Tryz.prog.rowNamed t [101,114,114,111,114])=[121]:=by kernel_rfl
theorem HS{e:aj}{b:qS}{d:DataW H}{c:List MemPlace}(h:DataW.Trod enc Tryz.prog W 0 (λ_=>true) true 22 v d c)(a:∀p∈c,W.sameAt e p)(f:∀p∈c,b p.block=true):DataW.Trod enc Tryz.prog e 0 b true 22 v d c:=by
 obtain⟨n,h⟩:=h;exact⟨n,DataW.trod_stays (kids_book laidOut Km) (book_sized Km) (λh=>by cases h) ⟨Pt,book_self 22⟩ h a f⟩
theorem HR{e:aj}{b:qS}{d:DataW H}{c:List MemPlace}(h:DataW.Trod enc Tryz.prog W 0 (λ_=>true) true 23 v d c)(a:∀p∈c,W.sameAt e p)(f:∀p∈c,b p.block=true):DataW.Trod enc Tryz.prog e 0 b true 23 v d c:=by
 obtain⟨n,h⟩:=h;exact⟨n,DataW.trod_stays (kids_book laidOut Kl) (book_sized Kl) (λh=>by cases h) ⟨Pr,book_self 23⟩ h a f⟩
theorem zB{o:aj}{args:gd}{ds n:List (DataW H)}{before:List MemPlace}(e:DataW.Whole enc Tryz.prog Tryz.f8.params.toList Rows.roomsSpec.vars false W args.toList ds n before)(c:Below W.heap.size W o):
 Rows.roomsSpec.post enc Tryz.prog Tryz.f8 false true false false W args (.bool true) o:=by
 have d:=e;have b:=e.lt;obtain⟨p,q,g,f,rfl,o,o⟩:=e;have m:DataW.TrodAll enc Tryz.prog W 0 (λ_=>true) true Tryz.f8.params.toList args.toList ds p:=g;rw[params8]at m;obtain⟨e,e,d1,d2,j,i,rfl,rfl,rfl,s,r⟩:=trodAll_two m;have e:DataW.TrodVars enc Tryz.prog W (λ_=>true) [] n q:=f;obtain⟨rfl,rfl⟩:=trodVars_none e;have l:∀p∈j,p.block<W.heap.size:=λp a=>b p (by simp[a]);have k:∀p∈i,p.block<W.heap.size:=λp a=>b p (by simp[a]);refine⟨_,_,_,[],j++i,[],d,?_,?_,rfl,c.frame _,λh=>by cases h⟩
 .rw[results8];exact trodAll_mk1 (shut_bool u4 true)
 .rw[params8];exact trodAll_mk2 (HS s (λp a=>c.same (l p a)) (λp a=>by simpa using l p a)) (HR r (λp a=>c.same (k p a)) (λp a=>by simpa using k p a))
theorem rY(h:laidMetH Tryz.prog Rows.roomsRow.laid W):W.cell? ⟨0,0,none⟩=some (.iface 217 (.agg #[.pointer (some ⟨1,121,none⟩)])):=by
 have d:laidMet Tryz.prog [] W/\handlesMet Tryz.prog Rows.roomsRow.laid W:=h;obtain⟨name,u,c,j,i,g,f,b⟩:=d.2 _ (wP.2 rfl);have e:name=[101,114,114,111,114]:=(Option.some.inj j).symm;subst e;obtain rfl:=Option.some.inj (Mk.symm.trans i);have a:c∈(List.range Tryz.prog.types.size).filter λt=>Tryz.prog.rowNamed t [101,114,114,111,114]:=mK.2 ⟨aZ.2 g,f⟩;rw[MG]at a;obtain rfl:=wP.1 a;have c:typeHandle Tryz.prog 121=.pointer (some ⟨1,121,none⟩):=by kernel_rfl
 rw[c]at b;simpa using World.var?_cell Gv b 0
theorem Cv{b a:eP}{m cap:Nat}{L:oF}{g:Nat->Cl}(h:Ds W b n L a m g):
 Goal Tryz.prog (λv c=>v=.bool true/\Below W.heap.size W c) (solo (G (Frame.enter Tryz.prog 8 #[.slice b n c0,.slice a m cap] .normal) []) W) #[]:=
 Zf (K:=Old W) (Old.of (Below.refl _ _)) (λx h=>h) (EO h (λa a=>⟨rfl,a.below⟩))
set_option maxRecDepth 100000 in
theorem xw{base:Nat}{t e:TypeId}(c:Tryz.prog.underlying t=some (.slice e))(h:Value.okWide Tryz.prog W .any base t v):∃a n cap,v=.slice a n cap/\∀p:Addr,a=some p->p.block<W.heap.size:=by
 cases v<;>simp[Value.okWide,Cell.okWide,Cell.ok,c]at h;rename_i a n cap;refine⟨a,n,cap,rfl,λp f=>?_⟩;subst f;simp[Value.okWide,Cell.okWide,Cell.ok,c,World.has]at h;obtain⟨_,_,_,_,row,cells,b,_⟩:=h;unfold World.shape? at b;cases d:W.heap[p.block]? with
 |none=>rw[d]at b;simp at b
 |some o=>exact(cU.1 d).1
theorem Fa:ownKnob Tryz.prog.godebug=none:=by kernel_rfl
def FX(w:aj):World:={w with heap:=w.heap.modify 0 λo=>match o with|.cells _ t fr=>.cells #[.iface 217 (.agg #[.pointer (some ⟨1,121,none⟩)])] t fr|o=>o}
theorem FW(os:Os)(args:gd):laidMetH Tryz.prog Rows.roomsRow.laid ((FX (World.holding Tryz.prog os ⟨#[],#[],[]⟩)).forCall (λ_ _=>0) ⟨#[],args,[]⟩).memory:=
 laidMetH_of_parts (laidMet_nil _ _) (by kernel_rfl)
set_option maxRecDepth 100000 in
theorem vG(os:Os)(started:os.Started)(H:Type)(enc:TypeId×Value->H):
 ReturnsInLeavingWide {} Tryz.checked os 8 .any (λw args=>(Rows.roomsSpec.pre enc Tryz.prog Tryz.f8 [] false w args/\laidMetH Tryz.prog Rows.roomsRow.laid w)/\sizedMet enc Tryz.prog Tryz.f8 (OpenSpec.ofChange Rows.roomsSpec) false w args)
  (Rows.roomsSpec.post enc Tryz.prog Tryz.f8 false true false false):=by
 refine returnsInLeavingWide_of_good (C:=Tryz.checked) Fa started
  (ChangeSpec.witness_at (enc:=enc) (C:=Tryz.checked) (os:=os) (X:=λw _=>laidMetH Tryz.prog Rows.roomsRow.laid w) false (FX (World.holding Tryz.prog os ⟨#[],#[],[]⟩)) #[.slice none 0 0,.slice none 0 0] 8 rfl (by kernel_rfl) (by kernel_rfl) (by kernel_rfl) (by kernel_rfl) (by kernel_rfl) (FW os _)) ?_
 intro w tape i _ _ _ D l A;obtain⟨_,_,_,G,r,_,_,_,_,h⟩:=D;obtain rfl:Tryz.f8=G:=Option.some.inj (Tryz.func8.symm.trans r);obtain⟨⟨⟨ds,gs,before,I,hc⟩,hx⟩,hz⟩:=l;have f:=DataW.Whole.of_heap (w':=w.forCall tape i) (by rfl) I;have hL:laidMetH Tryz.prog Rows.roomsRow.laid (w.forCall tape i):=hx.of_heap (by rfl);have J:=rY hL;have e:=hz.weights I;generalize w.forCall tape i=W at*;have M:=f;obtain⟨p,q,F,hV0,rfl,hfz,Va⟩:=f;have O:DataW.TrodAll enc Tryz.prog W 0 (λ_=>true) true Tryz.f8.params.toList i.args.toList ds p:=F;rw[params8]at O;obtain⟨S,R,d1,d2,p1,p2,K,rfl,rfl,⟨n1,P⟩,⟨n2,h2⟩⟩:=trodAll_two O;rw[params8]at e;have a:∀(j:Nat) t v,Tryz.f8.params[j]? =some t->i.args[j]? =some v->Value.okWide Tryz.prog W .any w.heap.size t v:=h;rw[params8,K]at a;obtain⟨V,n,c,rfl,bL⟩:=xw SZ (a 0 22 S rfl rfl);obtain⟨U,m,cap,rfl,bC⟩:=xw WZ (a 1 23 R rfl rfl);obtain⟨C,n',d,L,e1,E⟩:=Cz P;obtain⟨B,m',y,g,e2,s⟩:=YH h2;have x:[Value.slice V n c]=[.slice C n' d]:=e1;have u:[Value.slice U m cap]=[.slice B m' y]:=e2;simp only[List.cons.injEq,Value.slice.injEq,and_true]at x u;obtain⟨rfl,rfl,rfl⟩:=x;obtain⟨rfl,rfl,rfl⟩:=u;have bT:∀i,i<m->0<(g i).nt->∀p:Addr,(g i).ta=some p->p.block<W.heap.size:=λk hk h0 p z=>by
  obtain⟨b,o,_,_,_,hT⟩:=s k hk;obtain⟨b',o',e3,h3⟩:=hT 0 h0;rw[e3]at z;cases z;exact au (h3 0 (by decide))
 obtain⟨N,last,o,Q,T,r1,Z,Y,X⟩:=Cv (c0:=c) (cap:=cap) ⟨E,bL,FH P e,s,bC,bT,au J,J⟩;rw[K]at M ⊢;refine⟨N,last,o,Q,T,r1,Z,Y,X.mono λv z=>?_⟩;obtain⟨rfl,hb⟩:=z;exact ChangeSpec.post_blind (zB M hb)
theorem xE:Rows.RoomsSaid:=
 OpenClaim.holds_of_wide_leaving 8 Tryz.f8 rfl rfl rfl rfl rfl rfl rfl ⟨rfl,rfl,rfl,rfl,rfl⟩ rfl rfl rfl rfl rfl (by kernel_rfl) Tryz.func8 (by kernel_rfl)
  (Lv (by kernel_rfl)) (by unfold Func.isWrapper;first|(rw[ah (by decide+kernel)];kernel_rfl)|(rw[af (by decide+kernel)];exact⟨rfl,rfl⟩))
  (λos started H enc _=>vG os started H enc)
theorem rooms_card:Rows.RoomsCardSaid:=by
 have c:∀f fn,Tryz.pinned.checked.prog.funcNamed Rows.roomsRow.func=some f->Tryz.pinned.checked.prog.funcs[f]? =some fn->true=Tryz.pinned.checked.prog.looks []/\∀(j:Nat) t,fn.params[j]? =some t->Tryz.pinned.checked.prog.wantsStandIn t=false:=λf fn d b=>by
  obtain rfl:f=8:=Option.some.inj ((show Tryz.prog.funcNamed Tryz.f8.name=some 8 by kernel_rfl).symm.trans d)|>.symm;obtain rfl:fn=Tryz.f8:=(Option.some.inj (Tryz.func8.symm.trans b)).symm;exact⟨by kernel_rfl,λj t a=>by
   rw[params8]at a;have b:t=22\/t=23:=by
    rcases j with _|_|j
    .left;simpa using a.symm
    .right;simpa using a.symm
    .simp at a
   rcases b with rfl|rfl
   .exact(show Tryz.prog.wantsStandIn 22=false by kernel_rfl)
   .exact(show Tryz.prog.wantsStandIn 23=false by kernel_rfl)⟩
 have b:=Claim7.tied_new_at .later [LaidKind.handle] true (Claim7.new_of_sixth xE (true, "0c89c787d4b98a4316ae03ebdf8092ff43dc2c86c76f3ceb993ca0c048420df6") true rfl ⟨rfl,rfl⟩ (by kernel_rfl) (by rfl) c) (by kernel_rfl);exact⟨b,(λD e=>by cases e),rooms_row_tie,(λh=>by cases h),(by kernel_rfl)⟩
end Go.Proofs.YtobagnjnbmgidaaGreatDoor
