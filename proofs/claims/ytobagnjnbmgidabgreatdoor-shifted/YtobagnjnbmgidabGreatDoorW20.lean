/- Shifted holds of the landed code, whatever layers and clients may lie in memory, whatever the number, and on every schedule: it returns true, with no data race; the arguments read as before; at the return every other goroutine has ended or is only leaving.
Conditions: those of the given row and card alone. -/
import Derived.Test.YtobagnjnbmgidabGreatDoorA50
import Derived.Test.YtobagnjnbmgidabGreatDoorTie
import Derived.Test.YtobagnjnbmgidabGreatDoorCards
import Derived.ChangeBook
import Derived.ChangeSame
import Derived.LaidLaws
import Derived.LaidHandle
import Derived.JoinedOf
import Derived.ChangeVars
import Derived.Stop.Joined
set_option linter.all false
set_option maxRecDepth 100000
namespace Go.Proofs.YtobagnjnbmgidabGreatDoor
open Go.Conc Go.RowKit Go.ChangeShapes Go.WideShapes
variable{t:Int}{W:aj}{v:ay}
variable{H:Type}{enc:TypeId×Value->H}
theorem SZ:Tryz.prog.underlying 22=some (.slice 26):=ρ
theorem f51:jR Tryz.prog 26=[(3,0),(3,1),(3,2),(3,3),(3,4),(3,5)]:=ρ
theorem c51:Tryz.prog.cellsOf 26=6:=ρ
theorem Cz{enc:TypeId×Value->H}{sp:qS}{c:Bool}{a:Nat}{b:iO}{x:DataW H×List MemPlace}(h:DataW.trod enc Tryz.prog W 0 sp c a 22 b=some x):∃a n cap L,b=[.slice a n cap]/\nF W a n L:=
 uA SZ c51 δ (λj a=>by rw[f51];match j,a with|0,_=>rfl|1,_=>rfl|2,_=>rfl|3,_=>rfl|4,_=>rfl|5,_=>rfl) h
theorem laidOut:laidOutB Tryz.prog=true:=ρ
theorem Km:Tryz.prog.readableRec 22=true:=ρ
theorem Kl:Tryz.prog.readableRec 23=true:=ρ
theorem Pt:22<Tryz.prog.types.size:=Lv ρ
theorem Pr:23<Tryz.prog.types.size:=Lv ρ
theorem params4:Tryz.f4.params=#[22,23,3]:=ρ
theorem aaf:Tryz.prog.readableRec 3=true:=ρ
theorem aax:3<Tryz.prog.types.size:=Lv ρ
theorem results4:Tryz.f4.resultTypes=#[4]:=ρ
theorem u4:Tryz.prog.underlying 4=some .bool:=ρ
theorem Gv:Tryz.prog.globalNamed "errors.errorType" =some 0:=ρ
theorem Mk:(Tryz.prog.cutTypes.find? (·.1== "internal/reflectlite.rtype")).map (·.2)=some 233:=ρ
theorem MG:((List.range Tryz.prog.types.size).filter λt=>Tryz.prog.rowNamed t [101,114,114,111,114])=[136]:=ρ
theorem HS{e:aj}{b:qS}{d:DataW H}{c:List MemPlace}(h:DataW.Trod enc Tryz.prog W 0 (λ_=>true) true 22 v d c)(a:∀p∈c,W.sameAt e p)(f:∀p∈c,b p.block=true):DataW.Trod enc Tryz.prog e 0 b true 22 v d c:=by
 let⟨n,h⟩:=h;exact⟨n,DataW.trod_stays (kids_book laidOut Km) (book_sized Km) (λh=>by cases h) ⟨Pt,book_self 22⟩ h a f⟩
theorem HR{e:aj}{b:qS}{d:DataW H}{c:List MemPlace}(h:DataW.Trod enc Tryz.prog W 0 (λ_=>true) true 23 v d c)(a:∀p∈c,W.sameAt e p)(f:∀p∈c,b p.block=true):DataW.Trod enc Tryz.prog e 0 b true 23 v d c:=by
 let⟨n,h⟩:=h;exact⟨n,DataW.trod_stays (kids_book laidOut Kl) (book_sized Kl) (λh=>by cases h) ⟨Pr,book_self 23⟩ h a f⟩
theorem UL{e:aj}{b:qS}{d:DataW H}{c:List MemPlace}(h:DataW.Trod enc Tryz.prog W 0 (λ_=>true) true 3 v d c)(a:∀p∈c,W.sameAt e p)(f:∀p∈c,b p.block=true):DataW.Trod enc Tryz.prog e 0 b true 3 v d c:=by
 let⟨n,h⟩:=h;exact⟨n,DataW.trod_stays (kids_book laidOut aaf) (book_sized aaf) (λh=>by cases h) ⟨aax,book_self 3⟩ h a f⟩
theorem wo{s:aj}{args:gd}{ds r:List (DataW H)}{before:List MemPlace}(e:DataW.Whole enc Tryz.prog Tryz.f4.params.toList Rows.shiftedSpec.vars false W args.toList ds r before)(c:Below W.heap.size W s):
 Rows.shiftedSpec.post enc Tryz.prog Tryz.f4 false true false false W args (.bool true) s:=by
 have d:=e;have b:=e.lt;obtain⟨p,q,g,f,rfl,s,s⟩:=e;have o:DataW.TrodAll enc Tryz.prog W 0 (λ_=>true) true Tryz.f4.params.toList args.toList ds p:=g;rw[params4]at o;obtain⟨e,e,e,d1,d2,d3,k,j,i,rfl,rfl,rfl,v,u,t⟩:=trodAll_three o;have e:DataW.TrodVars enc Tryz.prog W (λ_=>true) [] r q:=f;obtain⟨rfl,rfl⟩:=trodVars_none e;have n:∀p∈k,p.block<W.heap.size:=λp a=>b p (by simp[a]);have m:∀p∈j,p.block<W.heap.size:=λp a=>b p (by simp[a]);have l:∀p∈i,p.block<W.heap.size:=λp a=>b p (by simp[a]);refine⟨_,_,_,[],k++(j++i),[],d,?_,?_,rfl,c.frame _,λh=>by cases h⟩
 .rw[results4];exact trodAll_mk1 (shut_bool u4 true)
 .rw[params4];exact trodAll_mk3 (HS v (λp a=>c.same (n p a)) (λp a=>by simpa using n p a)) (HR u (λp a=>c.same (m p a)) (λp a=>by simpa using m p a)) (UL t (λp a=>c.same (l p a)) (λp a=>by simpa using l p a))
theorem rY(h:laidMetH Tryz.prog Rows.shiftedRow.laid W):W.cell? ⟨0,0,none⟩=some (.iface 233 (.agg #[.pointer (some ⟨1,136,none⟩)])):=by
 have d:laidMet Tryz.prog [] W/\handlesMet Tryz.prog Rows.shiftedRow.laid W:=h;let⟨name,u,c,j,i,g,f,b⟩:=d.2 _ (wP.2 rfl);have e:name=[101,114,114,111,114]:=(Option.some.inj j).symm;subst e;obtain rfl:=Option.some.inj (Mk.symm.trans i);have a:c∈(List.range Tryz.prog.types.size).filter λt=>Tryz.prog.rowNamed t [101,114,114,111,114]:=mK.2 ⟨aZ.2 g,f⟩;rw[MG]at a;obtain rfl:=wP.1 a;have c:typeHandle Tryz.prog 136=.pointer (some ⟨1,136,none⟩):=ρ
 rw[c]at b;simpa using World.var?_cell Gv b 0
theorem aar(h:(Lit.int .i64 t).wf=true):-9223372036854775808<=t/\t<9223372036854775808:=by
 have a:IntKind.min .i64<=t/\t<=IntKind.max .i64:=by simpa [Lit.wf]using h
 have a:IntKind.min .i64=-9223372036854775808:=δ
 have a:IntKind.max .i64=9223372036854775807:=δ
 omega
theorem wx{b a:eP}{n c0 m cap:Nat}{L:oF}{g:Nat->Cl}(h:Ds W b n L a m g)(c:(Lit.int .i64 t).wf=true):
 Goal Tryz.prog (λv d=>v=.bool true/\Below W.heap.size W d) (solo (G (Frame.enter Tryz.prog 4 #[.slice b n c0,.slice a m cap,.int .i64 t] .normal) []) W) #[]:=
 Zf (K:=Old W) (Old.of (Below.refl _ _)) (λx h=>h) (Ag h (aar c) (λa a=>⟨rfl,a.below⟩))
set_option maxRecDepth 100000 in
theorem xw{base:Nat}{t e:TypeId}(c:Tryz.prog.underlying t=some (.slice e))(h:Value.okWide Tryz.prog W .any base t v):∃a n cap,v=.slice a n cap/\∀p:Addr,a=some p->p.block<W.heap.size:=by
 cases v<;>simp[Value.okWide,Cell.okWide,Cell.ok,c]at h;rename_i a n cap;refine⟨a,n,cap,rfl,λp f=>?_⟩;subst f;simp[Value.okWide,Cell.okWide,Cell.ok,c,World.has]at h;let⟨_,_,_,_,row,cells,b,_⟩:=h;unfold World.shape? at b;cases d:W.heap[p.block]? with
 |none=>rw[d]at b;simp at b
 |some o=>exact(cU.1 d).1
theorem Fw:ownKnob Tryz.prog.godebug=none:=ρ
def FX(w:aj):World:={w with heap:=w.heap.modify 0 λo=>match o with|.cells _ t fr=>.cells #[.iface 233 (.agg #[.pointer (some ⟨1,136,none⟩)])] t fr|o=>o}
theorem FW(os:Os)(args:gd):laidMetH Tryz.prog Rows.shiftedRow.laid ((FX (World.holding Tryz.prog os ⟨#[],#[],[]⟩)).forCall (λ_ _=>0) ⟨#[],args,[]⟩).memory:=
 laidMetH_of_parts (laidMet_nil _ _) ρ
set_option maxRecDepth 100000 in
theorem nv(os:Os)(started:os.Started)(H:Type)(enc:TypeId×Value->H):
 ReturnsInLeavingWide {} Tryz.checked os 4 .any (λw args=>(Rows.shiftedSpec.pre enc Tryz.prog Tryz.f4 [] false w args/\laidMetH Tryz.prog Rows.shiftedRow.laid w)/\sizedMet enc Tryz.prog Tryz.f4 (OpenSpec.ofChange Rows.shiftedSpec) false w args)
  (Rows.shiftedSpec.post enc Tryz.prog Tryz.f4 false true false false):=by
 refine returnsInLeavingWide_of_good (C:=Tryz.checked) Fw started
  (ChangeSpec.witness_at (enc:=enc) (C:=Tryz.checked) (os:=os) (X:=λw _=>laidMetH Tryz.prog Rows.shiftedRow.laid w) false (FX (World.holding Tryz.prog os ⟨#[],#[],[]⟩)) #[.slice none 0 0,.slice none 0 0,.int .i64 0] 4 rfl ρ ρ ρ ρ ρ (FW os _)) ?_
 intro w tape i _ _ _ z f h;let⟨_,_,_,D,h,_,_,_,_,e⟩:=z;obtain rfl:Tryz.f4=D:=Option.some.inj (Tryz.func4.symm.trans h);let⟨⟨⟨ds,_,before,h,_⟩,D⟩,z⟩:=f;have d:=DataW.Whole.of_heap (w':=w.forCall tape i) φ h;have f:laidMetH Tryz.prog Rows.shiftedRow.laid (w.forCall tape i):=D.of_heap φ;have E:=rY f;have x:=z.weights h;generalize w.forCall tape i=W at*;have G:=d;obtain⟨p,q,B,f,rfl,f,f⟩:=d;have I:DataW.TrodAll enc Tryz.prog W 0 (λ_=>true) true Tryz.f4.params.toList i.args.toList ds p:=B;rw[params4]at I;obtain⟨M,K,J,d1,d2,d3,d,d,d,F,rfl,rfl,⟨d,S⟩,⟨d,R⟩,C⟩:=trodAll_three I;rw[params4]at x;have a:∀(j:Nat) t v,Tryz.f4.params[j]? =some t->i.args[j]? =some v->Value.okWide Tryz.prog W .any w.heap.size t v:=e;rw[params4,F]at a;obtain⟨P,n,c,rfl,U⟩:=xw SZ (a 0 22 M rfl rfl);obtain⟨O,m,cap,rfl,V⟩:=xw WZ (a 1 23 K rfl rfl);obtain⟨d,rfl,rfl,rfl,y⟩:=open_int u3 (a 2 3 J rfl rfl) C;let⟨h,j,d,L,w,A⟩:=Cz S;let⟨f,q,e,g,t,l⟩:=YH R;have s:[Value.slice P n c]=[.slice h j d]:=w;have r:[Value.slice O m cap]=[.slice f q e]:=t;simp only[List.cons.injEq,Value.slice.injEq,and_true]at s r;obtain⟨rfl,rfl,rfl⟩:=s;obtain⟨rfl,rfl,rfl⟩:=r;have T:∀i,i<m->0<(g i).nt->∀p:Addr,(g i).ta=some p->p.block<W.heap.size:=λk d e p u=>by
  let⟨_,o,_,_,_,b⟩:=l k d;let⟨_,_,d,C⟩:=b 0 e;rw[d]at u;cases u;exact au (C 0 δ)
 let⟨N,last,o,b,d,h,g,f,e⟩:=wx (c0:=c) (cap:=cap) ⟨A,U,l,V,T,au E,E⟩ y;rw[F]at G ⊢;refine⟨N,last,o,b,d,h,g,f,e.mono λv u=>?_⟩;obtain⟨rfl,Q⟩:=u;exact ChangeSpec.post_blind (wo G Q)
theorem tu:Rows.ShiftedSaid:=
 OpenClaim.holds_of_wide_leaving 4 Tryz.f4 rfl rfl rfl rfl rfl rfl rfl ⟨rfl,rfl,rfl,rfl,rfl⟩ rfl rfl rfl rfl rfl ρ Tryz.func4 ρ
  (Lv ρ) (by unfold Func.isWrapper;first|(rw[sJ (by decide+kernel)];kernel_rfl)|(rw[af (by decide+kernel)];exact⟨rfl,rfl⟩))
  (λos started H enc _=>nv os started H enc)
theorem shifted_card:Rows.ShiftedCardSaid:=by
 have c:∀f fn,Tryz.pinned.checked.prog.funcNamed Rows.shiftedRow.func=some f->Tryz.pinned.checked.prog.funcs[f]? =some fn->true=Tryz.pinned.checked.prog.looks []/\∀(j:Nat) t,fn.params[j]? =some t->Tryz.pinned.checked.prog.wantsStandIn t=false:=λf fn d b=>by
  obtain rfl:f=4:=Option.some.inj ((show Tryz.prog.funcNamed Tryz.f4.name=some 4 by kernel_rfl).symm.trans d)|>.symm;obtain rfl:fn=Tryz.f4:=(Option.some.inj (Tryz.func4.symm.trans b)).symm;exact⟨ρ,λj t a=>by
   rw[params4]at a;have b:t=22\/t=23\/t=3:=by
    rcases j with _|_|_|j
    .left;simpa using a.symm
    .right;left;simpa using a.symm
    .right;right;simpa using a.symm
    .simp at a
   rcases b with rfl|rfl|rfl
   .exact(show Tryz.prog.wantsStandIn 22=false by kernel_rfl)
   .exact(show Tryz.prog.wantsStandIn 23=false by kernel_rfl)
   .exact(show Tryz.prog.wantsStandIn 3=false by kernel_rfl)⟩
 have b:=Claim7.tied_new_at .later [LaidKind.handle] true (Claim7.new_of_sixth tu (true, "981e6123a7351ba24562891c5e2a9b983ceb7d0ee9c5e23d0e8a788c82beaf16") true rfl ⟨rfl,rfl⟩ ρ φ c) ρ;exact⟨b,(λD e=>by cases e),shifted_row_tie,(λh=>by cases h),ρ⟩
end Go.Proofs.YtobagnjnbmgidabGreatDoor
