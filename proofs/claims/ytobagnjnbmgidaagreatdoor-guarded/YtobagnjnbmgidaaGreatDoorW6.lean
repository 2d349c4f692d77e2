/- Guarded holds of the landed code, whatever layers and clients may lie in memory and on every schedule: it returns true, with no data race; both arguments read as before; at the return every other goroutine has ended or is only leaving.
Conditions: those of the given row and card alone. -/
import Derived.Test.YtobagnjnbmgidaaGreatDoorB9
import Derived.Test.YtobagnjnbmgidaaGreatDoorTie
import Derived.Test.YtobagnjnbmgidaaGreatDoorCards
import Derived.ChangeBook
import Derived.ChangeSame
import Derived.LaidLaws
import Derived.LaidHandle
import Derived.JoinedOf
import Derived.ChangeVars
import Derived.Stop.Joined
set_option linter.all false
set_option maxRecDepth 100000
namespace Go.Proofs.YtobagnjnbmgidaaGreatDoor
open Go.Conc Go.RowKit Go.ChangeShapes Go.WideShapes
variable{c0 c n:Nat}{W:aj}{v:ay}{l:eP}
variable{H:Type}{enc:TypeId×Value->H}
theorem SZ:Tryz.prog.underlying 22=some (.slice 51):=by kernel_rfl
theorem f51:jR Tryz.prog 51=[(3,0),(3,1),(3,2),(3,3),(3,4),(3,5)]:=by kernel_rfl
theorem c51:Tryz.prog.cellsOf 51=6:=by kernel_rfl
theorem b51:Tryz.prog.bytesOf 51=48:=by kernel_rfl
theorem Cz{enc:TypeId×Value->H}{sp:qS}{a:Bool}{b:iO}{x:DataW H×List MemPlace}(h:DataW.trod enc Tryz.prog W 0 sp a c 22 b=some x):∃a n cap L,b=[.slice a n cap]/\nF W a n L:=
 uA SZ c51 (by decide) (λj a=>by rw[f51];match j,a with|0,_=>rfl|1,_=>rfl|2,_=>rfl|3,_=>rfl|4,_=>rfl|5,_=>rfl) h
theorem FH{enc:TypeId×Value->H}{sp:qS}{j:Bool}{d:DataW H}{i:List MemPlace}{g:List TypeId}{ds:List (DataW H)}(h:DataW.trod enc Tryz.prog W 0 sp j c 22 [.slice l n c0]=some (d,i))(b:(DataW.weightsEach Tryz.prog (22::g) (d::ds)).all (·<=reachBytes)=true):n<=2932031007317:=by
 rcases DataW.trod_slice SZ h with ⟨e,_⟩|⟨a,len,cap,elems,rest,k,_,e,ex,_,_,_,a,_⟩
 .simp only[List.cons.injEq,Value.slice.injEq,and_true]at e;omega
 .simp only[List.cons.injEq,Value.slice.injEq,and_true]at e;obtain⟨_,rfl,_⟩:=e;simp only[Prod.mk.injEq]at ex;obtain⟨rfl,_⟩:=ex;rw[DataW.weightsEach,DataW.weights,SZ,List.all_append,bZ]at b;have f:=b.1;simp only[List.all_cons,bZ,decide_eq_true_eq,b51,List.length_map]at f;have m:=f.1;unfold reachBytes at m;omega
theorem laidOut:laidOutB Tryz.prog=true:=by kernel_rfl
theorem Km:Tryz.prog.readableRec 22=true:=by kernel_rfl
theorem Kl:Tryz.prog.readableRec 23=true:=by kernel_rfl
theorem Pt:22<Tryz.prog.types.size:=Lv (by kernel_rfl)
theorem Pr:23<Tryz.prog.types.size:=Lv (by kernel_rfl)
theorem params14:Tryz.f14.params=#[22,23]:=by kernel_rfl
theorem results14:Tryz.f14.resultTypes=#[4]:=by kernel_rfl
theorem u4:Tryz.prog.underlying 4=some .bool:=by kernel_rfl
theorem Gv:Tryz.prog.globalNamed "errors.errorType" =some 0:=by kernel_rfl
theorem Mk:(Tryz.prog.cutTypes.find? (·.1== "internal/reflectlite.rtype")).map (·.2)=some 217:=by kernel_rfl
theorem MG:((List.range Tryz.prog.types.size).filter λt=>Tryz.prog.rowNamed t [101,114,114,111,114])=[121]:=by kernel_rfl
theorem HS{e:aj}{b:qS}{d:DataW H}{c:List MemPlace}(h:DataW.Trod enc Tryz.prog W 0 (λ_=>true) true 22 v d c)(a:∀p∈c,W.sameAt e p)(f:∀p∈c,b p.block=true):DataW.Trod enc Tryz.prog e 0 b true 22 v d c:=by
 let⟨n,h⟩:=h;exact⟨n,DataW.trod_stays (kids_book laidOut Km) (book_sized Km) (λh=>by cases h) ⟨Pt,book_self 22⟩ h a f⟩
theorem HR{e:aj}{b:qS}{d:DataW H}{c:List MemPlace}(h:DataW.Trod enc Tryz.prog W 0 (λ_=>true) true 23 v d c)(a:∀p∈c,W.sameAt e p)(f:∀p∈c,b p.block=true):DataW.Trod enc Tryz.prog e 0 b true 23 v d c:=by
 let⟨n,h⟩:=h;exact⟨n,DataW.trod_stays (kids_book laidOut Kl) (book_sized Kl) (λh=>by cases h) ⟨Pr,book_self 23⟩ h a f⟩
theorem v7{o:aj}{args:gd}{ds n:List (DataW H)}{before:List MemPlace}(e:DataW.Whole enc Tryz.prog Tryz.f14.params.toList Rows.guardedSpec.vars false W args.toList ds n before)(c:Below W.heap.size W o):
 Rows.guardedSpec.post enc Tryz.prog Tryz.f14 false true false false W args (.bool true) o:=by
 have d:=e;have b:=e.lt;obtain⟨p,q,g,f,rfl,o,o⟩:=e;have m:DataW.TrodAll enc Tryz.prog W 0 (λ_=>true) true Tryz.f14.params.toList args.toList ds p:=g;rw[params14]at m;obtain⟨e,e,d1,d2,j,i,rfl,rfl,rfl,s,r⟩:=trodAll_two m;have e:DataW.TrodVars enc Tryz.prog W (λ_=>true) [] n q:=f;obtain⟨rfl,rfl⟩:=trodVars_none e;have l:∀p∈j,p.block<W.heap.size:=λp a=>b p (by simp[a]);have k:∀p∈i,p.block<W.heap.size:=λp a=>b p (by simp[a]);refine⟨_,_,_,[],j++i,[],d,?_,?_,rfl,c.frame _,λh=>by cases h⟩
 .rw[results14];exact trodAll_mk1 (shut_bool u4 true)
 .rw[params14];exact trodAll_mk2 (HS s (λp a=>c.same (l p a)) (λp a=>by simpa using l p a)) (HR r (λp a=>c.same (k p a)) (λp a=>by simpa using k p a))
theorem rY(h:laidMetH Tryz.prog Rows.guardedRow.laid W):W.cell? ⟨0,0,none⟩=some (.iface 217 (.agg #[.pointer (some ⟨1,121,none⟩)])):=by
 have d:laidMet Tryz.prog [] W/\handlesMet Tryz.prog Rows.guardedRow.laid W:=h;let⟨name,u,c,j,i,g,f,b⟩:=d.2 _ (wP.2 rfl);have e:name=[101,114,114,111,114]:=(Option.some.inj j).symm;subst e;obtain rfl:=Option.some.inj (Mk.symm.trans i);have a:c∈(List.range Tryz.prog.types.size).filter λt=>Tryz.prog.rowNamed t [101,114,114,111,114]:=mK.2 ⟨aZ.2 g,f⟩;rw[MG]at a;obtain rfl:=wP.1 a;have c:typeHandle Tryz.prog 121=.pointer (some ⟨1,121,none⟩):=by kernel_rfl
 rw[c]at b;simpa using World.var?_cell Gv b 0
theorem zD{a:eP}{m cap:Nat}{L:oF}{g:Nat->Cl}(h:Ds W l n L a m g)(b:n<=2932031007317):
 Goal Tryz.prog (λv c=>v=.bool true/\Below W.heap.size W c) (solo (G (Frame.enter Tryz.prog 14 #[.slice l n c0,.slice a m cap] .normal) []) W) #[]:=
 Zf (K:=Old W) (Old.of (Below.refl _ _)) (λx h=>h) (Cf h b (λa a=>⟨rfl,a.below⟩))
set_option maxRecDepth 100000 in
theorem xw{base:Nat}{t e:TypeId}(d:Tryz.prog.underlying t=some (.slice e))(h:Value.okWide Tryz.prog W .any base t v):∃a n cap,v=.slice a n cap/\∀p:Addr,a=some p->p.block<W.heap.size:=by
 cases v<;>simp[Value.okWide,Cell.okWide,Cell.ok,d]at h;rename_i a n cap;refine⟨a,n,cap,rfl,λp f=>?_⟩;subst f;simp[World.has]at h;let⟨_,_,_,_,row,cells,b,_⟩:=h;unfold World.shape? at b;cases c:W.heap[p.block]? with
 |none=>rw[c]at b;simp at b
 |some o=>exact(cU.1 c).1
theorem ET:ownKnob Tryz.prog.godebug=none:=by kernel_rfl
def FX(w:aj):World:={w with heap:=w.heap.modify 0 λo=>match o with|.cells _ t fr=>.cells #[.iface 217 (.agg #[.pointer (some ⟨1,121,none⟩)])] t fr|o=>o}
theorem FW(os:Os)(args:gd):laidMetH Tryz.prog Rows.guardedRow.laid ((FX (World.holding Tryz.prog os ⟨#[],#[],[]⟩)).forCall (λ_ _=>0) ⟨#[],args,[]⟩).memory:=
 laidMetH_of_parts (laidMet_nil _ _) (by kernel_rfl)
set_option maxRecDepth 100000 in
theorem sJ(os:Os)(started:os.Started)(H:Type)(enc:TypeId×Value->H):
 ReturnsInLeavingWide {} Tryz.checked os 14 .any (λw args=>(Rows.guardedSpec.pre enc Tryz.prog Tryz.f14 [] false w args/\laidMetH Tryz.prog Rows.guardedRow.laid w)/\sizedMet enc Tryz.prog Tryz.f14 (OpenSpec.ofChange Rows.guardedSpec) false w args)
  (Rows.guardedSpec.post enc Tryz.prog Tryz.f14 false true false false):=by
 refine returnsInLeavingWide_of_good (C:=Tryz.checked) ET started
  (ChangeSpec.witness_at (enc:=enc) (C:=Tryz.checked) (os:=os) (X:=λw _=>laidMetH Tryz.prog Rows.guardedRow.laid w) false (FX (World.holding Tryz.prog os ⟨#[],#[],[]⟩)) #[.slice none 0 0,.slice none 0 0] 14 rfl (by kernel_rfl) (by kernel_rfl) (by kernel_rfl) (by kernel_rfl) (by kernel_rfl) (FW os _)) ?_
 intro w tape i _ _ _ y h l;let⟨_,_,_,B,l,_,_,_,_,f⟩:=y;obtain rfl:Tryz.f14=B:=Option.some.inj (Tryz.func14.symm.trans l);let⟨⟨⟨ds,_,before,l,_⟩,B⟩,y⟩:=h;have d:=DataW.Whole.of_heap (w':=w.forCall tape i) (by rfl) l;have h:laidMetH Tryz.prog Rows.guardedRow.laid (w.forCall tape i):=B.of_heap (by rfl);have C:=rY h;have e:=y.weights l;generalize w.forCall tape i=W at*;have E:=d;obtain⟨p,q,A,h,rfl,h,h⟩:=d;have F:DataW.TrodAll enc Tryz.prog W 0 (λ_=>true) true Tryz.f14.params.toList i.args.toList ds p:=A;rw[params14]at F;obtain⟨J,I,d1,d2,d,d,D,rfl,rfl,⟨d,G⟩,⟨d,Q⟩⟩:=trodAll_two F;rw[params14]at e;have a:∀(j:Nat) t v,Tryz.f14.params[j]? =some t->i.args[j]? =some v->Value.okWide Tryz.prog W .any w.heap.size t v:=f;rw[params14,D]at a;obtain⟨M,n,c,rfl,S⟩:=xw SZ (a 0 22 J rfl rfl);obtain⟨K,m,cap,rfl,T⟩:=xw WZ (a 1 23 I rfl rfl);let⟨j,l,d,L,w,z⟩:=Cz G;let⟨h,q,f,g,t,r⟩:=YH Q;have u:[Value.slice M n c]=[.slice j l d]:=w;have s:[Value.slice K m cap]=[.slice h q f]:=t;simp only[List.cons.injEq,Value.slice.injEq,and_true]at u s;obtain⟨rfl,rfl,rfl⟩:=u;obtain⟨rfl,rfl,rfl⟩:=s;have R:∀i,i<m->0<(g i).nt->∀p:Addr,(g i).ta=some p->p.block<W.heap.size:=λk d f p x=>by
  let⟨_,o,_,_,_,b⟩:=r k d;let⟨_,_,d,P⟩:=b 0 f;rw[d]at x;cases x;exact au (P 0 (by decide))
 let⟨N,last,o,b,d,i,h,g,f⟩:=zD (c0:=c) (cap:=cap) ⟨z,S,r,T,R,au C,C⟩ (FH G e);rw[D]at E ⊢;refine⟨N,last,o,b,d,i,h,g,f.mono λv x=>?_⟩;obtain⟨rfl,O⟩:=x;exact ChangeSpec.post_blind (v7 E O)
theorem tv:Rows.GuardedSaid:=
 OpenClaim.holds_of_wide_leaving 14 Tryz.f14 rfl rfl rfl rfl rfl rfl rfl ⟨rfl,rfl,rfl,rfl,rfl⟩ rfl rfl rfl rfl rfl (by kernel_rfl) Tryz.func14 (by kernel_rfl)
  (Lv (by kernel_rfl)) (by unfold Func.isWrapper;first|(rw[ah (by decide+kernel)];kernel_rfl)|(rw[af (by decide+kernel)];exact⟨rfl,rfl⟩))
  (λos started H enc _=>sJ os started H enc)
theorem guarded_card:Rows.GuardedCardSaid:=by
 have c:∀f fn,Tryz.pinned.checked.prog.funcNamed Rows.guardedRow.func=some f->Tryz.pinned.checked.prog.funcs[f]? =some fn->true=Tryz.pinned.checked.prog.looks []/\∀(j:Nat) t,fn.params[j]? =some t->Tryz.pinned.checked.prog.wantsStandIn t=false:=λf fn d b=>by
  obtain rfl:f=14:=Option.some.inj ((show Tryz.prog.funcNamed Tryz.f14.name=some 14 by kernel_rfl).symm.trans d)|>.symm;obtain rfl:fn=Tryz.f14:=(Option.some.inj (Tryz.func14.symm.trans b)).symm;exact⟨by kernel_rfl,λj t a=>by
   rw[params14]at a;have b:t=22\/t=23:=by
    rcases j with _|_|j
    .left;simpa using a.symm
    .right;simpa using a.symm
    .simp at a
   rcases b with rfl|rfl
   .exact(show Tryz.prog.wantsStandIn 22=false by kernel_rfl)
   .exact(show Tryz.prog.wantsStandIn 23=false by kernel_rfl)⟩
 have b:=Claim7.tied_new_at .later [LaidKind.handle] true (Claim7.new_of_sixth tv (true, "0c89c787d4b98a4316ae03ebdf8092ff43dc2c86c76f3ceb993ca0c048420df6") true rfl ⟨rfl,rfl⟩ (by kernel_rfl) (by rfl) c) (by kernel_rfl);exact⟨b,(λD e=>by cases e),guarded_row_tie,(λh=>by cases h),(by kernel_rfl)⟩
end Go.Proofs.YtobagnjnbmgidaaGreatDoor
