/- Answered holds of the landed code, whatever layers and clients may lie in memory and on every schedule: it returns true, with no data race; both arguments read as before; at the return every other goroutine has ended or is only leaving.
Conditions: those of the given row and card alone. -/
import Derived.Test.YtobagnjnbmgidaaGreatDoorA20
import Derived.Test.YtobagnjnbmgidaaGreatDoorTie
import Derived.Test.YtobagnjnbmgidaaGreatDoorCards
import Derived.ChangeBook
import Derived.ChangeSame
import Derived.LaidLaws
import Derived.LaidHandle
import Derived.JoinedOf
import Derived.ChangeVars
import Derived.Stop.Joined
set_option linter.all false
set_option maxRecDepth 100000
namespace Go.Proofs.YtobagnjnbmgidaaGreatDoor
open Go.Conc Go.RowKit Go.ChangeShapes Go.WideShapes
variable{W:aj}{v:ay}
variable{H:Type}{enc:TypeId×Value->H}
theorem SZ:Tryz.prog.underlying 22=some (.slice 51):=ρ
theorem f51:jR Tryz.prog 51=[(3,0),(3,1),(3,2),(3,3),(3,4),(3,5)]:=ρ
theorem c51:Tryz.prog.cellsOf 51=6:=ρ
theorem Cz{enc:TypeId×Value->H}{sp:qS}{c:Bool}{a:Nat}{b:iO}{x:DataW H×List MemPlace}(h:DataW.trod enc Tryz.prog W 0 sp c a 22 b=some x):∃a n cap L,b=[.slice a n cap]/\nF W a n L:=
 uA SZ c51 δ (λj a=>by rw[f51];match j,a with|0,_=>rfl|1,_=>rfl|2,_=>rfl|3,_=>rfl|4,_=>rfl|5,_=>rfl) h
theorem laidOut:laidOutB Tryz.prog=true:=ρ
theorem Km:Tryz.prog.readableRec 22=true:=ρ
theorem Kl:Tryz.prog.readableRec 23=true:=ρ
theorem Pt:22<Tryz.prog.types.size:=Lv ρ
theorem Pr:23<Tryz.prog.types.size:=Lv ρ
theorem params10:Tryz.f10.params=#[22,23]:=ρ
theorem results10:Tryz.f10.resultTypes=#[4]:=ρ
theorem u4:Tryz.prog.underlying 4=some .bool:=ρ
theorem Gv:Tryz.prog.globalNamed "errors.errorType" =some 0:=ρ
theorem Mk:(Tryz.prog.cutTypes.find? (·.1== "internal/reflectlite.rtype")).map (·.2)=some 217:=ρ
theorem MG:((List.range Tryz.prog.types.size).filter λt=>Tryz.prog.rowNamed t [101,114,114,111,114])=[121]:=ρ
theorem HS{e:aj}{b:qS}{d:DataW H}{c:List MemPlace}(h:DataW.Trod enc Tryz.prog W 0 (λ_=>true) true 22 v d c)(a:∀p∈c,W.sameAt e p)(f:∀p∈c,b p.block=true):DataW.Trod enc Tryz.prog e 0 b true 22 v d c:=by
 let⟨n,h⟩:=h;exact⟨n,DataW.trod_stays (kids_book laidOut Km) (book_sized Km) (λh=>by cases h) ⟨Pt,book_self 22⟩ h a f⟩
theorem HR{e:aj}{b:qS}{d:DataW H}{c:List MemPlace}(h:DataW.Trod enc Tryz.prog W 0 (λ_=>true) true 23 v d c)(a:∀p∈c,W.sameAt e p)(f:∀p∈c,b p.block=true):DataW.Trod enc Tryz.prog e 0 b true 23 v d c:=by
 let⟨n,h⟩:=h;exact⟨n,DataW.trod_stays (kids_book laidOut Kl) (book_sized Kl) (λh=>by cases h) ⟨Pr,book_self 23⟩ h a f⟩
theorem DI{o:aj}{args:gd}{ds n:List (DataW H)}{before:List MemPlace}(e:DataW.Whole enc Tryz.prog Tryz.f10.params.toList Rows.answeredSpec.vars false W args.toList ds n before)(c:Below W.heap.size W o):
 Rows.answeredSpec.post enc Tryz.prog Tryz.f10 false true false false W args (.bool true) o:=by
 have d:=e;have b:=e.lt;obtain⟨p,q,g,f,rfl,o,o⟩:=e;have m:DataW.TrodAll enc Tryz.prog W 0 (λ_=>true) true Tryz.f10.params.toList args.toList ds p:=g;rw[params10]at m;obtain⟨e,e,d1,d2,j,i,rfl,rfl,rfl,s,r⟩:=trodAll_two m;have e:DataW.TrodVars enc Tryz.prog W (λ_=>true) [] n q:=f;obtain⟨rfl,rfl⟩:=trodVars_none e;have l:∀p∈j,p.block<W.heap.size:=λp a=>b p (by simp[a]);have k:∀p∈i,p.block<W.heap.size:=λp a=>b p (by simp[a]);refine⟨_,_,_,[],j++i,[],d,?_,?_,rfl,c.frame _,λh=>by cases h⟩
 .rw[results10];exact trodAll_mk1 (shut_bool u4 true)
 .rw[params10];exact trodAll_mk2 (HS s (λp a=>c.same (l p a)) (λp a=>by simpa using l p a)) (HR r (λp a=>c.same (k p a)) (λp a=>by simpa using k p a))
theorem rY(h:laidMetH Tryz.prog Rows.answeredRow.laid W):W.cell? ⟨0,0,none⟩=some (.iface 217 (.agg #[.pointer (some ⟨1,121,none⟩)])):=by
 have d:laidMet Tryz.prog [] W/\handlesMet Tryz.prog Rows.answeredRow.laid W:=h;let⟨name,u,c,j,i,g,f,b⟩:=d.2 _ (wP.2 rfl);have e:name=[101,114,114,111,114]:=(Option.some.inj j).symm;subst e;obtain rfl:=Option.some.inj (Mk.symm.trans i);have a:c∈(List.range Tryz.prog.types.size).filter λt=>Tryz.prog.rowNamed t [101,114,114,111,114]:=mK.2 ⟨aZ.2 g,f⟩;rw[MG]at a;obtain rfl:=wP.1 a;have c:typeHandle Tryz.prog 121=.pointer (some ⟨1,121,none⟩):=ρ
 rw[c]at b;simpa using World.var?_cell Gv b 0
theorem ET{b a:eP}{n c0 m cap:Nat}{L:oF}{g:Nat->Cl}(h:Ds W b n L a m g):
 Goal Tryz.prog (λv c=>v=.bool true/\Below W.heap.size W c) (solo (G (Frame.enter Tryz.prog 10 #[.slice b n c0,.slice a m cap] .normal) []) W) #[]:=
 Zf (K:=Old W) (Old.of (Below.refl _ _)) (λx h=>h) (Fi h (λa a=>⟨rfl,a.below⟩))
set_option maxRecDepth 100000 in
theorem xw{base:Nat}{t e:TypeId}(c:Tryz.prog.underlying t=some (.slice e))(h:Value.okWide Tryz.prog W .any base t v):∃a n cap,v=.slice a n cap/\∀p:Addr,a=some p->p.block<W.heap.size:=by
 cases v<;>simp[Value.okWide,Cell.okWide,Cell.ok,c]at h;rename_i a n cap;refine⟨a,n,cap,rfl,λp f=>?_⟩;subst f;simp[Value.okWide,Cell.okWide,Cell.ok,c,World.has]at h;let⟨_,_,_,_,row,cells,b,_⟩:=h;unfold World.shape? at b;cases d:W.heap[p.block]? with
 |none=>rw[d]at b;simp at b
 |some o=>exact(cU.1 d).1
theorem JG:ownKnob Tryz.prog.godebug=none:=ρ
def FX(w:aj):World:={w with heap:=w.heap.modify 0 λo=>match o with|.cells _ t fr=>.cells #[.iface 217 (.agg #[.pointer (some ⟨1,121,none⟩)])] t fr|o=>o}
theorem FW(os:Os)(args:gd):laidMetH Tryz.prog Rows.answeredRow.laid ((FX (World.holding Tryz.prog os ⟨#[],#[],[]⟩)).forCall (λ_ _=>0) ⟨#[],args,[]⟩).memory:=
 laidMetH_of_parts (laidMet_nil _ _) ρ
set_option maxRecDepth 100000 in
theorem yE(os:Os)(started:os.Started)(H:Type)(enc:TypeId×Value->H):
 ReturnsInLeavingWide {} Tryz.checked os 10 .any (λw args=>(Rows.answeredSpec.pre enc Tryz.prog Tryz.f10 [] false w args/\laidMetH Tryz.prog Rows.answeredRow.laid w)/\sizedMet enc Tryz.prog Tryz.f10 (OpenSpec.ofChange Rows.answeredSpec) false w args)
  (Rows.answeredSpec.post enc Tryz.prog Tryz.f10 false true false false):=by
 refine returnsInLeavingWide_of_good (C:=Tryz.checked) JG started
  (ChangeSpec.witness_at (enc:=enc) (C:=Tryz.checked) (os:=os) (X:=λw _=>laidMetH Tryz.prog Rows.answeredRow.laid w) false (FX (World.holding Tryz.prog os ⟨#[],#[],[]⟩)) #[.slice none 0 0,.slice none 0 0] 10 rfl ρ ρ ρ ρ ρ (FW os _)) ?_
 intro w tape i _ _ _ x f h;let⟨_,_,_,A,h,_,_,_,_,e⟩:=x;obtain rfl:Tryz.f10=A:=Option.some.inj (Tryz.func10.symm.trans h);let⟨⟨⟨ds,_,before,x,_⟩,h⟩,A⟩:=f;have d:=DataW.Whole.of_heap (w':=w.forCall tape i) φ x;have f:laidMetH Tryz.prog Rows.answeredRow.laid (w.forCall tape i):=h.of_heap φ;have B:=rY f;generalize w.forCall tape i=W at*;have D:=d;obtain⟨p,q,z,f,rfl,f,f⟩:=d;have E:DataW.TrodAll enc Tryz.prog W 0 (λ_=>true) true Tryz.f10.params.toList i.args.toList ds p:=z;rw[params10]at E;obtain⟨G,F,d1,d2,d,d,C,rfl,rfl,⟨d,P⟩,⟨d,O⟩⟩:=trodAll_two E;have a:∀(j:Nat) t v,Tryz.f10.params[j]? =some t->i.args[j]? =some v->Value.okWide Tryz.prog W .any w.heap.size t v:=e;rw[params10,C]at a;obtain⟨J,n,c,rfl,R⟩:=xw SZ (a 0 22 G rfl rfl);obtain⟨I,m,cap,rfl,S⟩:=xw WZ (a 1 23 F rfl rfl);let⟨h,j,d,L,w,y⟩:=Cz P;let⟨f,q,e,g,t,l⟩:=YH O;have s:[Value.slice J n c]=[.slice h j d]:=w;have r:[Value.slice I m cap]=[.slice f q e]:=t;simp only[List.cons.injEq,Value.slice.injEq,and_true]at s r;obtain⟨rfl,rfl,rfl⟩:=s;obtain⟨rfl,rfl,rfl⟩:=r;have Q:∀i,i<m->0<(g i).nt->∀p:Addr,(g i).ta=some p->p.block<W.heap.size:=λk d e p u=>by
  let⟨_,o,_,_,_,b⟩:=l k d;let⟨_,_,d,M⟩:=b 0 e;rw[d]at u;cases u;exact au (M 0 δ)
 let⟨N,last,o,b,d,h,g,f,e⟩:=ET (c0:=c) (cap:=cap) ⟨y,R,l,S,Q,au B,B⟩;rw[C]at D ⊢;refine⟨N,last,o,b,d,h,g,f,e.mono λv u=>?_⟩;obtain⟨rfl,K⟩:=u;exact ChangeSpec.post_blind (DI D K)
theorem Bu:Rows.AnsweredSaid:=
 OpenClaim.holds_of_wide_leaving 10 Tryz.f10 rfl rfl rfl rfl rfl rfl rfl ⟨rfl,rfl,rfl,rfl,rfl⟩ rfl rfl rfl rfl rfl ρ Tryz.func10 ρ
  (Lv ρ) (by unfold Func.isWrapper;first|(rw[sJ (by decide+kernel)];kernel_rfl)|(rw[af (by decide+kernel)];exact⟨rfl,rfl⟩))
  (λos started H enc _=>yE os started H enc)
theorem answered_card:Rows.AnsweredCardSaid:=by
 have c:∀f fn,Tryz.pinned.checked.prog.funcNamed Rows.answeredRow.func=some f->Tryz.pinned.checked.prog.funcs[f]? =some fn->true=Tryz.pinned.checked.prog.looks []/\∀(j:Nat) t,fn.params[j]? =some t->Tryz.pinned.checked.prog.wantsStandIn t=false:=λf fn d b=>by
  obtain rfl:f=10:=Option.some.inj ((show Tryz.prog.funcNamed Tryz.f10.name=some 10 by kernel_rfl).symm.trans d)|>.symm;obtain rfl:fn=Tryz.f10:=(Option.some.inj (Tryz.func10.symm.trans b)).symm;exact⟨ρ,λj t a=>by
   rw[params10]at a;have b:t=22\/t=23:=by
    rcases j with _|_|j
    .left;simpa using a.symm
    .right;simpa using a.symm
    .simp at a
   rcases b with rfl|rfl
   .exact(show Tryz.prog.wantsStandIn 22=false by kernel_rfl)
   .exact(show Tryz.prog.wantsStandIn 23=false by kernel_rfl)⟩
 have b:=Claim7.tied_new_at .later [LaidKind.handle] true (Claim7.new_of_sixth Bu (true, "0c89c787d4b98a4316ae03ebdf8092ff43dc2c86c76f3ceb993ca0c048420df6") true rfl ⟨rfl,rfl⟩ ρ φ c) ρ;exact⟨b,(λD e=>by cases e),answered_row_tie,(λh=>by cases h),ρ⟩
end Go.Proofs.YtobagnjnbmgidaaGreatDoor
