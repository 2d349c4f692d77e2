/- Tries holds of the landed code: for every list of layers and every list of clients that may lie in memory, and on every schedule, the law returns true, without a data race, and leaves both arguments as they read before; at the return every other goroutine has ended or is only leaving.
Conditions: those of the given row and its card alone (the package-level variable errors.errorType starts as the program's text lays it, which the given tie shows; nothing else is asked). -/
import Derived.Test.YtobagnjnbmgidaaGreatDoorL9
import Derived.Test.YtobagnjnbmgidaaGreatDoorTie
import Derived.Test.YtobagnjnbmgidaaGreatDoorCards
import Derived.ChangeBook
import Derived.ChangeSame
import Derived.LaidLaws
import Derived.LaidHandle
import Derived.JoinedOf
import Derived.ChangeVars
import Derived.Stop.Joined
set_option linter.all false
set_option maxRecDepth 100000
namespace Go.Proofs.YtobagnjnbmgidaaGreatDoor
open Go.Conc Go.RowKit Go.ChangeShapes Go.WideShapes
theorem Uh:Tryz.prog.underlying 22=some (.slice 51):=by kernel_rfl
theorem f51:kI Tryz.prog 51=[(3,0),(3,1),(3,2),(3,3),(3,4),(3,5)]:=by kernel_rfl
theorem c51:Tryz.prog.cellsOf 51=6:=by kernel_rfl
theorem b51:Tryz.prog.bytesOf 51=48:=by kernel_rfl
theorem D5{H:Type}{enc:TypeId×Value→H}{W:World}{sp:Nat→Bool}{hd:Bool}{fuel:Nat}{cs:List Value}{x:DataW H×List MemPlace}(h:DataW.trod enc Tryz.prog W 0 sp hd fuel 22 cs=some x):∃sa n cap L,cs=[.slice sa n cap]∧jR W sa n L:=
 vo Uh c51 (by decide) (fun j hj=>by rw[f51];match j,hj with|0,_=>rfl|1,_=>rfl|2,_=>rfl|3,_=>rfl|4,_=>rfl|5,_=>rfl) h
theorem GH{H:Type}{enc:TypeId×Value→H}{W:World}{sp:Nat→Bool}{hd:Bool}{fuel:Nat}{s0:Option Addr}{n c0:Nat}{d:DataW H}{ps:List MemPlace}{ts:List TypeId}{ds:List (DataW H)}(h:DataW.trod enc Tryz.prog W 0 sp hd fuel 22 [.slice s0 n c0]=some (d,ps))(hw:(DataW.weightsEach Tryz.prog (22::ts) (d::ds)).all (·≤reachBytes)=true):n<2932031007403:=by
 rcases DataW.trod_slice Uh h with ⟨e,_⟩|⟨a,len,cap,elems,rest,k,_,e,ex,_,_,_,hlen,_⟩
 ·simp only[List.cons.injEq,Value.slice.injEq,and_true] at e
  omega
 ·simp only[List.cons.injEq,Value.slice.injEq,and_true] at e
  obtain⟨_,rfl,_⟩:=e;simp only[Prod.mk.injEq] at ex;obtain⟨rfl,_⟩:=ex;rw[DataW.weightsEach,DataW.weights,Uh,List.all_append,Bool.and_eq_true] at hw;have h1:=hw.1;simp only[List.all_cons,Bool.and_eq_true,decide_eq_true_eq,b51,List.length_map] at h1;have h2:=h1.1;unfold reachBytes at h2;omega
theorem laidOut:laidOutB Tryz.prog=true:=by kernel_rfl
theorem Lp:Tryz.prog.readableRec 22=true:=by kernel_rfl
theorem Ln:Tryz.prog.readableRec 23=true:=by kernel_rfl
theorem QM:22<Tryz.prog.types.size:=of_decide_eq_true (by kernel_rfl)
theorem QL:23<Tryz.prog.types.size:=of_decide_eq_true (by kernel_rfl)
theorem params6:Tryz.f6.params=#[22,23]:=by kernel_rfl
theorem results6:Tryz.f6.resultTypes=#[4]:=by kernel_rfl
theorem u4:Tryz.prog.underlying 4=some .bool:=by kernel_rfl
theorem HN:Tryz.prog.globalNamed "errors.errorType" =some 0:=by kernel_rfl
theorem Nb:(Tryz.prog.cutTypes.find? (·.1== "internal/reflectlite.rtype")).map (·.2)=some 217:=by kernel_rfl
theorem Nu:((List.range Tryz.prog.types.size).filter fun t=>Tryz.prog.rowNamed t [101,114,114,111,114])=[121]:=by kernel_rfl
section
variable{H:Type}{enc:TypeId×Value→H}
theorem Jf{W W':World}{Qv:Nat→Bool}{v:Value}{d:DataW H}{ps:List MemPlace}(h:DataW.Trod enc Tryz.prog W 0 (fun _=>true) true 22 v d ps)(qW:∀p∈ps,W.sameAt W' p)(hs:∀p∈ps,Qv p.block=true):DataW.Trod enc Tryz.prog W' 0 Qv true 22 v d ps:=by
 obtain⟨n,h⟩:=h;exact⟨n,DataW.trod_stays (kids_book laidOut Lp) (book_sized Lp) (fun h=>by cases h) ⟨QM,book_self 22⟩ h qW hs⟩
theorem Je{W W':World}{Qv:Nat→Bool}{v:Value}{d:DataW H}{ps:List MemPlace}(h:DataW.Trod enc Tryz.prog W 0 (fun _=>true) true 23 v d ps)(qW:∀p∈ps,W.sameAt W' p)(hs:∀p∈ps,Qv p.block=true):DataW.Trod enc Tryz.prog W' 0 Qv true 23 v d ps:=by
 obtain⟨n,h⟩:=h;exact⟨n,DataW.trod_stays (kids_book laidOut Ln) (book_sized Ln) (fun h=>by cases h) ⟨QL,book_self 23⟩ h qW hs⟩
theorem zV{W W':World}{args:Array Value}{ds gs:List (DataW H)}{before:List MemPlace}(hW:DataW.Whole enc Tryz.prog Tryz.f6.params.toList Rows.triesSpec.vars false W args.toList ds gs before)(hb:Below W.heap.size W W'):
 Rows.triesSpec.post enc Tryz.prog Tryz.f6 false true false false W args (.bool true) W':=by
 have Hu:=hW;have aT:=hW.lt;obtain⟨p,q,nR,Z5,rfl,Ei,wX⟩:=hW;have hA:DataW.TrodAll enc Tryz.prog W 0 (fun _=>true) true Tryz.f6.params.toList args.toList ds p:=nR;rw[params6] at hA;obtain⟨v1,v2,d1,d2,p1,p2,rfl,rfl,rfl,h1,h2⟩:=trodAll_two hA;have hV:DataW.TrodVars enc Tryz.prog W (fun _=>true) [] gs q:=Z5;obtain⟨rfl,rfl⟩:=trodVars_none hV;have l1:∀p∈p1,p.block<W.heap.size:=fun p hp=>aT p (by simp[hp])
 have l2:∀p∈p2,p.block<W.heap.size:=fun p hp=>aT p (by simp[hp])
 refine⟨_,_,_,[],p1++p2,[],Hu,?_,?_,rfl,hb.frame _,fun h=>by cases h⟩
 ·rw[results6]
  exact trodAll_mk1 (shut_bool u4 true)
 ·rw[params6]
  exact trodAll_mk2 (Jf h1 (fun p hp=>hb.same (l1 p hp)) (fun p hp=>by simpa using l1 p hp)) (Je h2 (fun p hp=>hb.same (l2 p hp)) (fun p hp=>by simpa using l2 p hp))
theorem tQ{W:World}(h:laidMetH Tryz.prog Rows.triesRow.laid W):W.cell? ⟨0,0,none⟩=some (.iface 217 (.agg #[.pointer (some ⟨1,121,none⟩)])):=by
 have h':laidMet Tryz.prog [] W∧handlesMet Tryz.prog Rows.triesRow.laid W:=h;obtain⟨name,u,ty,e1,e2,e3,e4,e5⟩:=h'.2 _ (List.mem_singleton.2 rfl);have en:name=[101,114,114,111,114]:=(Option.some.inj e1).symm;subst en;obtain rfl:=Option.some.inj (Nb.symm.trans e2);have hm:ty∈(List.range Tryz.prog.types.size).filter fun t=>Tryz.prog.rowNamed t [101,114,114,111,114]:=List.mem_filter.2 ⟨List.mem_range.2 e3,e4⟩
 rw[Nu] at hm;obtain rfl:=List.mem_singleton.1 hm;have hh:typeHandle Tryz.prog 121=.pointer (some ⟨1,121,none⟩):=by kernel_rfl
 rw[hh] at e5
 simpa using World.var?_cell HN e5 0
end
theorem DO{W:World}{s0 sa:Option Addr}{n c0 m cap:Nat}{L:Nat→Nat→Int}{g:Nat→Cl}(h:ER W s0 n L sa m g):
 Goal Tryz.prog (fun v W'=>v=.bool true∧Below W.heap.size W W') (solo (G (Frame.enter Tryz.prog 6 #[.slice s0 n c0,.slice sa m cap] .normal) []) W) #[]:=
 A5 (K:=Old W) (Old.of (Below.refl _ _)) (fun x h=>h) (FJ h (fun w' ho=>⟨rfl,ho.below⟩))
set_option maxRecDepth 100000 in
theorem yu{W:World}{base:Nat}{t e:TypeId}{v:Value}(ht:Tryz.prog.underlying t=some (.slice e))(h:Value.okWide Tryz.prog W .any base t v):∃sa n cap,v=.slice sa n cap∧∀p:Addr,sa=some p→p.block<W.heap.size:=by
 cases v<;>simp[Value.okWide,Cell.okWide,Cell.ok,ht] at h
 rename_i sa n cap
 refine⟨sa,n,cap,rfl,fun p hp=>?_⟩;subst hp;simp[Value.okWide,Cell.okWide,Cell.ok,ht,World.has] at h;obtain⟨_,_,_,_,row,cells,hs,_⟩:=h;unfold World.shape? at hs;cases hb:W.heap[p.block]? with
 |none=>rw[hb] at hs;simp at hs
 |some o=>exact(Array.getElem?_eq_some_iff.1 hb).1
theorem Gj:ownKnob Tryz.prog.godebug=none:=by kernel_rfl
def Hf(w:World):World:={w with heap:=w.heap.modify 0 fun o=>match o with|.cells _ t fr=>.cells #[.iface 217 (.agg #[.pointer (some ⟨1,121,none⟩)])] t fr|o=>o}
theorem He(os:Os)(args:Array Value):laidMetH Tryz.prog Rows.triesRow.laid ((Hf (World.holding Tryz.prog os ⟨#[],#[],[]⟩)).forCall (fun _ _=>0) ⟨#[],args,[]⟩).memory:=
 laidMetH_of_parts (laidMet_nil _ _) (by kernel_rfl)
set_option maxRecDepth 100000 in
theorem v7(os:Os)(started:os.Started)(H:Type)(enc:TypeId×Value→H):
 ReturnsInLeavingWide {} Tryz.checked os 6 .any (fun w args=>(Rows.triesSpec.pre enc Tryz.prog Tryz.f6 [] false w args∧laidMetH Tryz.prog Rows.triesRow.laid w)∧sizedMet enc Tryz.prog Tryz.f6 (OpenSpec.ofChange Rows.triesSpec) false w args)
  (Rows.triesSpec.post enc Tryz.prog Tryz.f6 false true false false):=by
 refine returnsInLeavingWide_of_good (C:=Tryz.checked) Gj started
  (ChangeSpec.witness_at (enc:=enc) (C:=Tryz.checked) (os:=os) (X:=fun w _=>laidMetH Tryz.prog Rows.triesRow.laid w) false (Hf (World.holding Tryz.prog os ⟨#[],#[],[]⟩)) #[.slice none 0 0,.slice none 0 0] 8 rfl (by kernel_rfl) (by kernel_rfl) (by kernel_rfl) (by kernel_rfl) (by kernel_rfl) (He os _)) ?_
 intro w tape i _ _ _ N5 Ws WZ;obtain⟨_,_,_,XQ,tO,_,_,_,_,V0⟩:=N5;obtain rfl:Tryz.f6=XQ:=Option.some.inj (Tryz.func6.symm.trans tO);obtain⟨⟨⟨ds,gs,before,hw,hc⟩,hx⟩,hz⟩:=Ws;have yR:=DataW.Whole.of_heap (w':=w.forCall tape i) (by rfl) hw;have hL:laidMetH Tryz.prog Rows.triesRow.laid (w.forCall tape i):=hx.of_heap (by rfl);have hg:=tQ hL;have eY:=hz.weights hw;generalize w.forCall tape i=W at*;have hW:=yR;obtain⟨p,q,nR,Z5,rfl,Ei,wX⟩:=yR;have hA:DataW.TrodAll enc Tryz.prog W 0 (fun _=>true) true Tryz.f6.params.toList i.args.toList ds p:=nR;rw[params6] at hA;obtain⟨v1,v2,d1,d2,p1,p2,ha,rfl,rfl,⟨n1,h1⟩,⟨n2,h2⟩⟩:=trodAll_two hA;rw[params6] at eY;have GR:∀(j:Nat) t v,Tryz.f6.params[j]? =some t→i.args[j]? =some v→Value.okWide Tryz.prog W .any w.heap.size t v:=V0;rw[params6,ha] at GR;obtain⟨sL,n,cg,rfl,bL⟩:=yu Uh (GR 0 22 v1 rfl rfl);obtain⟨sa,m,cap,rfl,bC⟩:=yu Zd (GR 1 23 v2 rfl rfl);obtain⟨sL',n',TH,L,e1,hL'⟩:=D5 h1;obtain⟨xR,m',aj,g,e2,hC'⟩:=wE h2;have Tq:[Value.slice sL n cg]=[.slice sL' n' TH]:=e1;have Tp:[Value.slice sa m cap]=[.slice xR m' aj]:=e2;simp only[List.cons.injEq,Value.slice.injEq,and_true] at Tq Tp;obtain⟨rfl,rfl,rfl⟩:=Tq;obtain⟨rfl,rfl,rfl⟩:=Tp
 have bT:∀i,i<m→0<(g i).nt→∀p:Addr,(g i).ta=some p→p.block<W.heap.size:=fun k hk h0 p hp=>by
  obtain⟨b,o,_,_,_,hT⟩:=hC' k hk;obtain⟨b',o',e3,h3⟩:=hT 0 h0;rw[e3] at hp;cases hp
  exact aq (h3 0 (by decide))
 obtain⟨N,last,o,w',t',r1,r2,r3,r4⟩:=DO (c0:=cg) (cap:=cap) ⟨hL',bL,GH h1 eY,hC',bC,bT,aq hg,hg⟩;rw[ha] at hW ⊢;refine⟨N,last,o,w',t',r1,r2,r3,r4.mono fun v hp=>?_⟩;obtain⟨rfl,hb⟩:=hp;exact ChangeSpec.post_blind (zV hW hb)
theorem yl:Rows.TriesSaid:=
 OpenClaim.holds_of_wide_leaving 6 Tryz.f6 rfl rfl rfl rfl rfl rfl rfl ⟨rfl,rfl,rfl,rfl,rfl⟩ rfl rfl rfl rfl rfl (by kernel_rfl) Tryz.func6 (by kernel_rfl)
  (of_decide_eq_true (by kernel_rfl)) (by unfold Func.isWrapper;first|(rw[if_pos (by decide+kernel)];kernel_rfl)|(rw[if_neg (by decide+kernel)];exact⟨rfl,rfl⟩))
  (fun os started H enc _=>v7 os started H enc)
theorem tries_card:Rows.TriesCardSaid:=by
 have hl:∀f fn,Tryz.pinned.checked.prog.funcNamed Rows.triesRow.func=some f→Tryz.pinned.checked.prog.funcs[f]? =some fn→true=Tryz.pinned.checked.prog.looks []∧∀(j:Nat) t,fn.params[j]? =some t→Tryz.pinned.checked.prog.wantsStandIn t=false:=fun f fn hf oO=>by
  obtain rfl:f=6:=Option.some.inj ((show Tryz.prog.funcNamed Tryz.f6.name=some 6 by kernel_rfl).symm.trans hf)|>.symm;obtain rfl:fn=Tryz.f6:=(Option.some.inj (Tryz.func6.symm.trans oO)).symm
  exact⟨by kernel_rfl,fun j t ht=>by
   rw[params6] at ht
   have h3:t=22∨t=23:=by
    rcases j with _|_|j
    ·left;simpa using ht.symm
    ·right;simpa using ht.symm
    ·simp at ht
   rcases h3 with rfl|rfl
   ·exact(show Tryz.prog.wantsStandIn 22=false by kernel_rfl)
   ·exact(show Tryz.prog.wantsStandIn 23=false by kernel_rfl)⟩
 have h0:=Claim7.tied_new_at .later [LaidKind.handle] true (Claim7.new_of_sixth yl (true, "0c89c787d4b98a4316ae03ebdf8092ff43dc2c86c76f3ceb993ca0c048420df6") true rfl ⟨rfl,rfl⟩ (by kernel_rfl) (by rfl) hl) (by kernel_rfl);exact⟨h0,(fun D hD=>by cases hD),tries_row_tie,(fun h=>by cases h),(by kernel_rfl)⟩
end Go.Proofs.YtobagnjnbmgidaaGreatDoor
