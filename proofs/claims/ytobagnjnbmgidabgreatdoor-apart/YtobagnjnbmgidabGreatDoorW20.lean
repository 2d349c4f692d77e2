/- Apart holds of the landed code, whatever layers and clients may lie in memory, and on every schedule: it returns true, with no data race; the arguments read as before; at the return every other goroutine has ended or is only leaving.
Conditions: those of the given row and card alone. -/
import Derived.Test.YtobagnjnbmgidabGreatDoorC1
import Derived.Test.YtobagnjnbmgidabGreatDoorTie
import Derived.Test.YtobagnjnbmgidabGreatDoorCards
import Derived.ChangeBook
import Derived.ChangeSame
import Derived.LaidLaws
import Derived.LaidHandle
import Derived.JoinedOf
import Derived.ChangeVars
import Derived.Stop.Joined
set_option linter.all false
set_option maxRecDepth 100000
namespace Go.Proofs.YtobagnjnbmgidabGreatDoor
open Go.Conc Go.RowKit Go.ChangeShapes Go.WideShapes
variable{c0 c n:Nat}{W:aj}{v:ay}
variable{H:Type}{enc:TypeId×Value->H}
theorem SZ:Tryz.prog.underlying 22=some (.slice 26):=ρ
theorem f51:jR Tryz.prog 26=[(3,0),(3,1),(3,2),(3,3),(3,4),(3,5)]:=ρ
theorem c51:Tryz.prog.cellsOf 26=6:=ρ
theorem b51:Tryz.prog.bytesOf 26=48:=ρ
theorem Cz{enc:TypeId×Value->H}{sp:qS}{a:Bool}{b:iO}{x:DataW H×List MemPlace}(h:DataW.trod enc Tryz.prog W 0 sp a c 22 b=some x):∃a n cap L,b=[.slice a n cap]/\nF W a n L:=
 uA SZ c51 δ (λj a=>by rw[f51];match j,a with|0,_=>rfl|1,_=>rfl|2,_=>rfl|3,_=>rfl|4,_=>rfl|5,_=>rfl) h
theorem E4{enc:TypeId×Value->H}{sp:qS}{l:Bool}{i:eP}{d:DataW H}{j:List MemPlace}{g:List TypeId}{ds:List (DataW H)}(h:DataW.trod enc Tryz.prog W 0 sp l c 22 [.slice i n c0]=some (d,j))(b:(DataW.weightsEach Tryz.prog (22::g) (d::ds)).all (·<=reachBytes)=true):n<=2932031007317:=by
 rcases DataW.trod_slice SZ h with ⟨e,_⟩|⟨a,len,cap,elems,rest,k,_,e,ex,_,_,_,a,_⟩
 .simp only[List.cons.injEq,Value.slice.injEq,and_true]at e;omega
 .simp only[List.cons.injEq,Value.slice.injEq,and_true]at e;obtain⟨_,rfl,_⟩:=e;simp only[Prod.mk.injEq]at ex;obtain⟨rfl,_⟩:=ex;rw[DataW.weightsEach,DataW.weights,SZ,List.all_append,bZ]at b;have f:=b.1;simp only[List.all_cons,bZ,decide_eq_true_eq,b51,List.length_map]at f;have m:=f.1;unfold reachBytes at m;omega
theorem laidOut:laidOutB Tryz.prog=true:=ρ
theorem Km:Tryz.prog.readableRec 22=true:=ρ
theorem Kl:Tryz.prog.readableRec 23=true:=ρ
theorem Pt:22<Tryz.prog.types.size:=Lv ρ
theorem Pr:23<Tryz.prog.types.size:=Lv ρ
theorem params5:Tryz.f5.params=#[22,23]:=ρ
theorem results5:Tryz.f5.resultTypes=#[4]:=ρ
theorem u4:Tryz.prog.underlying 4=some .bool:=ρ
theorem Gv:Tryz.prog.globalNamed "errors.errorType" =some 0:=ρ
theorem Mk:(Tryz.prog.cutTypes.find? (·.1== "internal/reflectlite.rtype")).map (·.2)=some 233:=ρ
theorem MG:((List.range Tryz.prog.types.size).filter λt=>Tryz.prog.rowNamed t [101,114,114,111,114])=[136]:=ρ
theorem HS{e:aj}{b:qS}{d:DataW H}{c:List MemPlace}(h:DataW.Trod enc Tryz.prog W 0 (λ_=>true) true 22 v d c)(a:∀p∈c,W.sameAt e p)(f:∀p∈c,b p.block=true):DataW.Trod enc Tryz.prog e 0 b true 22 v d c:=by
 let⟨n,h⟩:=h;exact⟨n,DataW.trod_stays (kids_book laidOut Km) (book_sized Km) (λh=>by cases h) ⟨Pt,book_self 22⟩ h a f⟩
theorem HR{e:aj}{b:qS}{d:DataW H}{c:List MemPlace}(h:DataW.Trod enc Tryz.prog W 0 (λ_=>true) true 23 v d c)(a:∀p∈c,W.sameAt e p)(f:∀p∈c,b p.block=true):DataW.Trod enc Tryz.prog e 0 b true 23 v d c:=by
 let⟨n,h⟩:=h;exact⟨n,DataW.trod_stays (kids_book laidOut Kl) (book_sized Kl) (λh=>by cases h) ⟨Pr,book_self 23⟩ h a f⟩
theorem JV{o:aj}{args:gd}{ds n:List (DataW H)}{before:List MemPlace}(e:DataW.Whole enc Tryz.prog Tryz.f5.params.toList Rows.apartSpec.vars false W args.toList ds n before)(c:Below W.heap.size W o):
 Rows.apartSpec.post enc Tryz.prog Tryz.f5 false true false false W args (.bool true) o:=by
 have d:=e;have b:=e.lt;obtain⟨p,q,g,f,rfl,o,o⟩:=e;have m:DataW.TrodAll enc Tryz.prog W 0 (λ_=>true) true Tryz.f5.params.toList args.toList ds p:=g;rw[params5]at m;obtain⟨e,e,d1,d2,j,i,rfl,rfl,rfl,s,r⟩:=trodAll_two m;have e:DataW.TrodVars enc Tryz.prog W (λ_=>true) [] n q:=f;obtain⟨rfl,rfl⟩:=trodVars_none e;have l:∀p∈j,p.block<W.heap.size:=λp a=>b p (by simp[a]);have k:∀p∈i,p.block<W.heap.size:=λp a=>b p (by simp[a]);refine⟨_,_,_,[],j++i,[],d,?_,?_,rfl,c.frame _,λh=>by cases h⟩
 .rw[results5];exact trodAll_mk1 (shut_bool u4 true)
 .rw[params5];exact trodAll_mk2 (HS s (λp a=>c.same (l p a)) (λp a=>by simpa using l p a)) (HR r (λp a=>c.same (k p a)) (λp a=>by simpa using k p a))
theorem rY(h:laidMetH Tryz.prog Rows.apartRow.laid W):W.cell? ⟨0,0,none⟩=some (.iface 233 (.agg #[.pointer (some ⟨1,136,none⟩)])):=by
 have d:laidMet Tryz.prog [] W/\handlesMet Tryz.prog Rows.apartRow.laid W:=h;let⟨name,u,c,j,i,g,f,b⟩:=d.2 _ (wP.2 rfl);have e:name=[101,114,114,111,114]:=(Option.some.inj j).symm;subst e;obtain rfl:=Option.some.inj (Mk.symm.trans i);have a:c∈(List.range Tryz.prog.types.size).filter λt=>Tryz.prog.rowNamed t [101,114,114,111,114]:=mK.2 ⟨aZ.2 g,f⟩;rw[MG]at a;obtain rfl:=wP.1 a;have c:typeHandle Tryz.prog 136=.pointer (some ⟨1,136,none⟩):=ρ
 rw[c]at b;simpa using World.var?_cell Gv b 0
theorem PM{c b:eP}{m cap:Nat}{L:oF}{g:Nat->Cl}(h:Ds W c n L b m g)(d:n<=2932031007317)(a:m<=cap):
 Goal Tryz.prog (λv e=>v=.bool true/\Below W.heap.size W e) (solo (G (Frame.enter Tryz.prog 5 #[.slice c n c0,.slice b m cap] .normal) []) W) #[]:=
 Zf (K:=Old W) (Old.of (Below.refl _ _)) (λx h=>h) (aac h d a (λa a=>⟨rfl,a.below⟩))
set_option maxRecDepth 100000 in
theorem xw{base:Nat}{t e:TypeId}(b:Tryz.prog.underlying t=some (.slice e))(h:Value.okWide Tryz.prog W .any base t v):∃a n cap,v=.slice a n cap/\(∀p:Addr,a=some p->p.block<W.heap.size)/\n<=cap:=by
 cases v<;>simp[Value.okWide,Cell.okWide,Cell.ok,b]at h;rename_i a n cap;refine⟨a,n,cap,rfl,λp f=>?_,?_⟩
 .subst f;simp[Value.okWide,Cell.okWide,Cell.ok,b,World.has]at h;let⟨_,_,_,_,row,cells,c,_⟩:=h;unfold World.shape? at c;cases d:W.heap[p.block]? with
  |none=>rw[d]at c;simp at c
  |some o=>exact(cU.1 d).1
 .cases a with
  |none=>
   split at h<;>first|(simp_all;done)|omega|trivial
  |some p=>
   simp[Value.okWide,Cell.okWide,Cell.ok,b]at h;exact h.1
theorem T1:ownKnob Tryz.prog.godebug=none:=ρ
def FX(w:aj):World:={w with heap:=w.heap.modify 0 λo=>match o with|.cells _ t fr=>.cells #[.iface 233 (.agg #[.pointer (some ⟨1,136,none⟩)])] t fr|o=>o}
theorem FW(os:Os)(args:gd):laidMetH Tryz.prog Rows.apartRow.laid ((FX (World.holding Tryz.prog os ⟨#[],#[],[]⟩)).forCall (λ_ _=>0) ⟨#[],args,[]⟩).memory:=
 laidMetH_of_parts (laidMet_nil _ _) ρ
set_option maxRecDepth 100000 in
theorem JE(os:Os)(started:os.Started)(H:Type)(enc:TypeId×Value->H):
 ReturnsInLeavingWide {} Tryz.checked os 5 .any (λw args=>(Rows.apartSpec.pre enc Tryz.prog Tryz.f5 [] false w args/\laidMetH Tryz.prog Rows.apartRow.laid w)/\sizedMet enc Tryz.prog Tryz.f5 (OpenSpec.ofChange Rows.apartSpec) false w args)
  (Rows.apartSpec.post enc Tryz.prog Tryz.f5 false true false false):=by
 refine returnsInLeavingWide_of_good (C:=Tryz.checked) T1 started
  (ChangeSpec.witness_at (enc:=enc) (C:=Tryz.checked) (os:=os) (X:=λw _=>laidMetH Tryz.prog Rows.apartRow.laid w) false (FX (World.holding Tryz.prog os ⟨#[],#[],[]⟩)) #[.slice none 0 0,.slice none 0 0] 5 rfl ρ ρ ρ ρ ρ (FW os _)) ?_
 intro w tape i _ _ _ z h l;let⟨_,_,_,C,l,_,_,_,_,f⟩:=z;obtain rfl:Tryz.f5=C:=Option.some.inj (Tryz.func5.symm.trans l);let⟨⟨⟨ds,_,before,l,_⟩,C⟩,z⟩:=h;have d:=DataW.Whole.of_heap (w':=w.forCall tape i) φ l;have h:laidMetH Tryz.prog Rows.apartRow.laid (w.forCall tape i):=C.of_heap φ;have D:=rY h;have e:=z.weights l;generalize w.forCall tape i=W at*;have F:=d;obtain⟨p,q,B,h,rfl,h,h⟩:=d;have G:DataW.TrodAll enc Tryz.prog W 0 (λ_=>true) true Tryz.f5.params.toList i.args.toList ds p:=B;rw[params5]at G;obtain⟨K,J,d1,d2,d,d,E,rfl,rfl,⟨d,I⟩,⟨d,R⟩⟩:=trodAll_two G;rw[params5]at e;have a:∀(j:Nat) t v,Tryz.f5.params[j]? =some t->i.args[j]? =some v->Value.okWide Tryz.prog W .any w.heap.size t v:=f;rw[params5,E]at a;obtain⟨O,n,c,rfl,T,_⟩:=xw SZ (a 0 22 K rfl rfl);obtain⟨M,m,cap,rfl,U,r⟩:=xw WZ (a 1 23 J rfl rfl);let⟨j,l,d,L,w,A⟩:=Cz I;let⟨h,q,f,g,t,s⟩:=YH R;have x:[Value.slice O n c]=[.slice j l d]:=w;have u:[Value.slice M m cap]=[.slice h q f]:=t;simp only[List.cons.injEq,Value.slice.injEq,and_true]at x u;obtain⟨rfl,rfl,rfl⟩:=x;obtain⟨rfl,rfl,rfl⟩:=u;have S:∀i,i<m->0<(g i).nt->∀p:Addr,(g i).ta=some p->p.block<W.heap.size:=λk d f p y=>by
  let⟨_,o,_,_,_,b⟩:=s k d;let⟨_,_,d,Q⟩:=b 0 f;rw[d]at y;cases y;exact au (Q 0 δ)
 let⟨N,last,o,b,d,i,h,g,f⟩:=PM (c0:=c) (cap:=cap) ⟨A,T,s,U,S,au D,D⟩ (E4 I e) r;rw[E]at F ⊢;refine⟨N,last,o,b,d,i,h,g,f.mono λv y=>?_⟩;obtain⟨rfl,P⟩:=y;exact ChangeSpec.post_blind (JV F P)
theorem JG:Rows.ApartSaid:=
 OpenClaim.holds_of_wide_leaving 5 Tryz.f5 rfl rfl rfl rfl rfl rfl rfl ⟨rfl,rfl,rfl,rfl,rfl⟩ rfl rfl rfl rfl rfl ρ Tryz.func5 ρ
  (Lv ρ) (by unfold Func.isWrapper;first|(rw[sJ (by decide+kernel)];kernel_rfl)|(rw[af (by decide+kernel)];exact⟨rfl,rfl⟩))
  (λos started H enc _=>JE os started H enc)
theorem apart_card:Rows.ApartCardSaid:=by
 have c:∀f fn,Tryz.pinned.checked.prog.funcNamed Rows.apartRow.func=some f->Tryz.pinned.checked.prog.funcs[f]? =some fn->true=Tryz.pinned.checked.prog.looks []/\∀(j:Nat) t,fn.params[j]? =some t->Tryz.pinned.checked.prog.wantsStandIn t=false:=λf fn d b=>by
  obtain rfl:f=5:=Option.some.inj ((show Tryz.prog.funcNamed Tryz.f5.name=some 5 by kernel_rfl).symm.trans d)|>.symm;obtain rfl:fn=Tryz.f5:=(Option.some.inj (Tryz.func5.symm.trans b)).symm;exact⟨ρ,λj t a=>by
   rw[params5]at a;have b:t=22\/t=23:=by
    rcases j with _|_|j
    .left;simpa using a.symm
    .right;simpa using a.symm
    .simp at a
   rcases b with rfl|rfl
   .exact(show Tryz.prog.wantsStandIn 22=false by kernel_rfl)
   .exact(show Tryz.prog.wantsStandIn 23=false by kernel_rfl)⟩
 have b:=Claim7.tied_new_at .later [LaidKind.handle] true (Claim7.new_of_sixth JG (true, "981e6123a7351ba24562891c5e2a9b983ceb7d0ee9c5e23d0e8a788c82beaf16") true rfl ⟨rfl,rfl⟩ ρ φ c) ρ;exact⟨b,(λD e=>by cases e),apart_row_tie,(λh=>by cases h),ρ⟩
end Go.Proofs.YtobagnjnbmgidabGreatDoor
