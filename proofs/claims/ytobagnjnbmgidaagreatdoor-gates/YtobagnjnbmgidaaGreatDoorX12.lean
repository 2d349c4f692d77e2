import Derived.Test.YtobagnjnbmgidaaGreatDoorX8
set_option linter.all false
set_option maxHeartbeats 0
set_option maxRecDepth 100000
namespace Go.Proofs.YtobagnjnbmgidaaGreatDoor
open Tryz Go.Conc Go.RowKit
variable{t:Int}{N nb:Nat}{w:aj}{f v:ay}
variable{main:Bool}{Ok:dw}
def zv(N:Nat)(w:aj)(v:ay):Prop:=v=.slice none 0 0\/∃E off cap cur,v=.slice (some ⟨E,off,none⟩) 0 cap/\N<=E/\w.heap[E]? =some (.cells cur 128 (0,0))/\off+2*cap<=cur.size
def One(N:Nat)(w:aj)(v:ay)(t:Int)(f:ay):Prop:=
 ∃E off cap cur,v=.slice (some ⟨E,off,none⟩) 1 (cap+1)/\N<=E/\w.heap[E]? =some (.cells cur 128 (0,0))/\off+2*(cap+1)<=cur.size/\cur[off]? =some (.int .i64 t)/\cur[off+1]? =some f
theorem zv.lt(h:zv N w v){g:Nat}(a:v.ownBlock=some g):N<=g/\∃cur,w.heap[g]? =some (.cells cur 128 (0,0)):=by
 rcases h with rfl|⟨E,off,cap,cur,rfl,c,b,_⟩
 .cases a
 .simp[Value.ownBlock]at a
  subst a;exact⟨c,cur,b⟩
theorem qd(w:aj)(ty:TypeId)(X:N<=w.heap.size)(W:zv N w v)(h0:w.cell? ⟨nb,0,none⟩=some (.int .i64 t))(h1:w.cell? ⟨nb,1,none⟩=some f)(V:f.oneCell'=true):
 ∃F w',(Builtin.append_ #[100,100] ty #[v,.slice (some ⟨nb,0,none⟩) 1 1]).run prog w=.ok F w'/\One N w' F t f/\w.grownBy w' v.ownBlock/\(F.ownBlock=v.ownBlock\/F.ownBlock=some w.heap.size)/\
  ∀ev∈(Builtin.append_ #[100,100] ty #[v,.slice (some ⟨nb,0,none⟩) 1 1]).events prog w #[],(∃ad,ev.loc=.cell ad/\((ev.write=false/\ad.block=nb)\/some ad.block=v.ownBlock))\/ev=noRoomEvent:=by
 obtain⟨inf,z,s,G,S,Q,R⟩:=kH
 have g:∀j u,[.int .i64 t,f][j]? =some u->w.cell? ((⟨nb,0,none⟩:Addr).add j)=some u:=by
  intro j u i;rw[dJ,bD]
  match j,i with
  |0,i=>simp at i;subst i;exact h0
  |1,i=>simp at i;subst i;exact h1
  |j+2,i=>simp at i
 have hl:([.int .i64 t,f]:iG).length=1*inf.size:=by rw[S];rfl
 have q:∀u∈([.int .i64 t,f]:iG),u.oneCell'=true:=by intro u i;simp at i;rcases i with rfl|rfl;rfl;exact V
 have src:∀(w':aj),(∀ad,w'.cell? ad=w.cell? ad)->∀es,∀ev∈(Builtin.firstCells inf.size 1 (.slice (some ⟨nb,0,none⟩) 1 1)).events prog w' es,ev∈es\/ev.readsIn (·=nb):=by
  intro w' H es;refine events_firstCells_in (P:=prog) (·=nb) inf.size 1 _ w' es λa l c e=>?_
  cases e
  exact⟨rfl,λj hj=>by rw[H];exact isSome_of_list g (by rw[hl];exact hj)⟩
 have n:∀(x:ay)(w':aj) es,(∃b c,x=.slice b 0 c)->∀ev∈(Builtin.firstCells inf.size 0 x).events prog w' es,ev∈es:=by
  intro x w' es ⟨b,c,e⟩ ev d;subst e;cases b with
  |none=>simpa [Builtin.firstCells]using d
  |some a=>simpa [Builtin.firstCells,loadCells,loadCellsFrom]using d
 have fin:∀ev:Event,ev.readsIn (·=nb)->(∃ad,ev.loc=.cell ad/\((ev.write=false/\ad.block=nb)\/some ad.block=v.ownBlock))\/ev=noRoomEvent:=λev ⟨ad,a1,a2,a3⟩=>.inl ⟨ad,a1,.inl ⟨a2,a3⟩⟩
 have room:∀(x:Nat)(w':aj),∀ev∈(askRoom x).events prog w' #[],ev=noRoomEvent:=λx w' ev d=>by
  rcases Conc.events_askRoom _ _ _ ev d with h|⟨m,h,T⟩
  .simp at h
  .rw[h,show m=.noRoom from T];rfl
 have C:=run_firstCells_some (P:=prog) w.drew inf.size 1 ⟨nb,0,none⟩ 1 1 [.int .i64 t,f] hl (by simpa using g);have r:=run_firstCells_some (P:=prog) w inf.size 1 ⟨nb,0,none⟩ 1 1 [.int .i64 t,f] hl (by simpa using g)
 have grown:∀old:Nat,old<1->One N (w.drew.alloc (.cells (#[.int .i64 t,f]++Builtin.zeroCells z.cells (grownCap w 1 old 128-1)) 128)) (.slice (some ⟨w.heap.size,0,none⟩) 1 (grownCap w 1 old 128)) t f/\
  w.grownBy (w.drew.alloc (.cells (#[.int .i64 t,f]++Builtin.zeroCells z.cells (grownCap w 1 old 128-1)) 128)) v.ownBlock:=by
  intro old ho;have U:=grownCap_ge w 1 old 128;obtain⟨c,hc⟩:∃c,grownCap w 1 old 128=c+1:=⟨grownCap w 1 old 128-1,by omega⟩;have e0:(#[.int .i64 t,f]++Builtin.zeroCells z.cells (grownCap w 1 old 128-1))[0]? =some (.int .i64 t):=by rw[tI (by simp)];rfl
  have e1:(#[.int .i64 t,f]++Builtin.zeroCells z.cells (grownCap w 1 old 128-1))[0+1]? =some f:=by rw[tI (by simp)];rfl
  refine⟨⟨w.heap.size,0,c,_,by rw[hc],X,nv (w:=w.drew) rfl rfl,?_,e0,e1⟩,⟨rfl,rfl,rfl,by simp,λk hk _=>Below.heap_alloc w.drew _ k hk⟩⟩;simp only[zy,vn,eG,gM,size_zeroCells,R,hc];omega
 rcases W with rfl|⟨E,off,cap,cur,rfl,Y,o,D⟩
 .have y:=run_append_nil (P:=prog) w 100 ty 128 inf z cQ s G ⟨nb,0,none⟩ 1 1 [.int .i64 t,f] hl g (by omega) (by omega) (by omega)
  obtain⟨O,M⟩:=grown 0 (by omega);refine⟨_,_,y,O,M,.inr rfl,λev d=>?_⟩;have p:¬(281474976710656<Builtin.nextslicecap 1 0*inf.bytes):=by rw[nextslicecap_zero (by omega),Q];omega
  simp[Builtin.append_,run_underlying cQ,sizeOf,typeInfo,zeroValue,s,G,Builtin.lenOf,p,Question.forced,run_firstCells_none,C,newRow]at d;rcases src w.drew (λ_=>rfl) _ ev d with h|h
  .have:=n _ _ _ ⟨none,0,rfl⟩ ev h
   exact .inr (room _ _ ev this)
  .exact fin ev h
 .by_cases L:cap=0
  .subst L
   have y:=run_append_grow (P:=prog) w 100 ty 128 inf z cQ s G ⟨E,off,none⟩ 0 0 [] (by simp) (by intro j v h;simp at h) ⟨nb,0,none⟩ 1 1 [.int .i64 t,f] hl g (by omega) (by omega) (growslice_fits (by omega) (by omega));obtain⟨O,M⟩:=grown 0 (by omega);simp only[bD,List.toArray,Array.empty_append]at y;refine⟨_,_,y,O,M,.inr rfl,λev d=>?_⟩;have p:¬(281474976710656<Builtin.nextslicecap 1 0*inf.bytes):=by rw[nextslicecap_zero (by omega),Q];omega
   have K:=run_firstCells_some (P:=prog) w.drew inf.size 0 ⟨E,off,none⟩ 0 0 [] (by simp) (by intro j v h;simp at h);simp[Builtin.append_,run_underlying cQ,sizeOf,typeInfo,zeroValue,s,G,Builtin.lenOf,p,Question.forced,K,C,newRow]at d;rcases src w.drew (λ_=>rfl) _ ev d with h|h
   .have:=n _ _ _ ⟨some ⟨E,off,none⟩,0,rfl⟩ ev h
    exact .inr (room _ _ ev this)
   .exact fin ev h
  .have J:1<=cap:=by omega
   obtain⟨c,rfl⟩:∃c,cap=c+1:=⟨cap-1,by omega⟩;have B:=run_storeCells_at (P:=prog) E off 128 [.int .i64 t,f] 0 cur w o (by simp;omega) q
   have y:(Builtin.append_ #[100,100] ty #[.slice (some ⟨E,off,none⟩) 0 (c+1),.slice (some ⟨nb,0,none⟩) 1 1]).run prog w=.ok (.slice (some ⟨E,off,none⟩) 1 (c+1)) (w.setRow E (cur.toList.take off++[.int .i64 t,f]++cur.toList.drop (off+2)).toArray):=by
    simp only[iO,eG,gM]at B;simp[Builtin.append_,run_underlying cQ,sizeOf,typeInfo,s,Builtin.lenOf,r,dJ,B]
   have I:(cur.toList.take off++[.int .i64 t,f]++cur.toList.drop (off+2)).toArray.size=cur.size:=by
    simp only[vn,qt,rJ,Bj,xp,eG,gM];omega
   have A:(cur.toList.take off).length=off:=by simp;omega
   refine⟨_,_,y,⟨E,off,c,_,rfl,Y,setRow_heap w E cur _ 128 _ o,by rw[I];exact D,?_,?_⟩,⟨rfl,rfl,rfl,by simp,λk _ hk=>setRow_other w E k _ (λe=>hk (by simp[Value.ownBlock,e]))⟩,.inl rfl,λev d=>?_⟩
   .rw[Da,fM,rH (by omega),A];simp
   .rw[Da,fM,rH (by omega),A];simp
   .simp[Builtin.append_,run_underlying cQ,sizeOf,typeInfo,s,Builtin.lenOf,r,dJ]at d
    rcases events_storeCells_at (P:=prog) E off 128 [.int .i64 t,f] 0 cur w _ o (by simp;omega) q ev d with h|⟨ad,h2,Z⟩
    .rcases src _ (λ_=>rfl) _ ev h with h|h
     .simp at h
     .exact fin ev h
    .exact .inl ⟨ad,h2,.inr (by simp[Value.ownBlock,Z])⟩
theorem aC.CK{Ψ:gi}{b:aE}{a:Act}{k:eF}{cs:cW}(F:aC prog main (DX Ok) Ψ){j:b9}{i:Nat}{rest:aP}{o:Oper}(ho:j[i]? =some o)(P:Region.wanted o (yielded j a.tmps)=true)(hk:b.kind≠.early)(s x:Operand)(q:o.op=.call {callee:=.builtin .append,args:=#[s,x],argTypes:=#[100,100]})(V:N<=w.heap.size)(I:a.eval s=v)(H:a.eval x=.slice (some ⟨nb,0,none⟩) 1 1)(D:zv N w v)(L:w.cell? ⟨nb,0,none⟩=some (.int .i64 t))(X:w.cell? ⟨nb,1,none⟩=some f)(T:f.oneCell'=true)(e:∀(ad:Addr)(wr:Bool),some ad.block=v.ownBlock->Ok ad wr)(p:∀ad:Addr,ad.block=nb->Ok ad false)(h:∀n w',One N w' n t f->w.grownBy w' v.ownBlock->(n.ownBlock=v.ownBlock\/n.ownBlock=some w.heap.size)->Ψ (G (b.at (a.put o.dst n) (.inRegion j rest::k)) cs) w'):
 Ψ (G (b.at a (.inRegion j (i::rest)::k)) cs) w:=by
 refine F.NO ho P hk λd K W=>?_
 obtain⟨n,w',R,u,g,U,C⟩:=qd (w.at d) o.type (N:=N) V (v:=v) D L X T;refine uponK_append s x 100 q I H R (W _ w' ⟨⟨λev Q=>?_,g.size,λc O l S=>?_,λad E A=>?_,λkk B y=>g.block kk B (λz=>y ⟨kk,0,none⟩ rfl (e _ _ z)),g.os,g.tape,g.output⟩,h n w' u ⟨g.os,g.tape,g.output,g.size,g.block⟩ U⟩)
 .have J:=mem_listed Q
  rw[events_append_op s x 100 q I H]at J;rcases C ev J with ⟨ad,e1,⟨e2,M⟩|e2⟩|e1
  .exact .inl ⟨ad,e1,rfl,by rw[e2];exact p ad M,by rw[M];exact c7 (au (w:=w) L) g.size⟩
  .obtain⟨Y,cur,r⟩:=zv.lt D e2.symm
   exact .inl ⟨ad,e1,rfl,e _ _ e2,c7 (cH.1 r).1 g.size⟩
  .exact .inr e1
 .have m:some c≠v.ownBlock:=λz=>by
   obtain⟨_,cur,r⟩:=zv.lt D z.symm;have:w.heap[c]? =some O:=l;rw[r]at this;exact S _ _ _ (Option.some.inj this).symm
  exact(g.block c (cH.1 l).1 m).trans l
 .have m:some ad.block≠v.ownBlock:=λz=>E (e _ _ z)
  have:=g.block _ A m;exact⟨World.cell?_of_block this,World.frozen?_of_block this⟩
theorem AN(w:aj)(b:eN)(c:Nat):(Instr.sliceAt 100 (.slice b 0 c) (some (.int .i64 0)) none none).events prog w #[]=#[]:=by
 simp[Instr.sliceAt,run_underlying cQ,Instr.slice,Instr.sliceBounds,Instr.sliceBound,asInt,asIntOf]
theorem AM(w:aj)(b:eN)(c:Nat):(Instr.sliceAt 100 (.slice b 1 (c+1)) (some (.int .i64 1)) none none).events prog w #[]=#[]:=by
 simp[Instr.sliceAt,run_underlying cQ,Instr.slice,Instr.sliceBounds,Instr.sliceBound,asInt,asIntOf]
theorem zv.form(h:zv N w v):∃base cap,v=.slice base 0 cap/\(base=none->cap=0):=by
 rcases h with rfl|⟨E,off,cap,cur,rfl,_⟩
 .exact⟨none,0,rfl,λ_=>rfl⟩
 .exact⟨some ⟨E,off,none⟩,cap,rfl,λh=>by cases h⟩
theorem Gw(N nb:Nat)(t:Int)(f v:ay)(w0:aj)(o:N<=w0.heap.size)(k:zv N w0 v)(q:w0.cell? ⟨nb,0,none⟩=some (.int .i64 t))(p:w0.cell? ⟨nb,1,none⟩=some f)(n:f.oneCell'=true)(a:∀(ad:Addr)(wr:Bool),some ad.block=v.ownBlock->Ok ad wr)(b:∀ad:Addr,ad.block=nb->Ok ad false):
 eC prog main (DX Ok) 60 #[v,.int .i64 0,.slice (some ⟨nb,0,none⟩) 1 1] w0 λe w'=>One N w' e t f/\Kp (bU v) w0 w'/\∀g∈bU e,g∈bU v\/g=w0.heap.size:=by
 intro Ψ F c cs hc;obtain⟨base,cap,r,l⟩:=k.form;subst r;rw[enter_at _ func60 rfl];simp only[ntmps60,oP,Nat.reduceAdd,Nat.reduceSub];refine F.cw ?_;refine F.aF ?_;try walk_nrm
 refine F.re ?_;cases base with
 |none=>
  obtain rfl:=l rfl;refine F.cw ?_;iterate 2 (refine F.aF ?_;try walk_nrm)
  refine F.Ac rfl rfl (by decide) (λ_=>(by first|(simp[go_sem,AN,AM];done)|(simp[go_sem,Instr.makeInterface,Instr.makeFunc];done)|(simp[go_sem, *];done))) (λd K i=>?_);go_simp;refine i _ ?_;clear i K d;try walk_nrm
  refine F.dh ?_;iterate 3 (refine F.aF ?_;try walk_nrm)
  refine F.es ?_;refine F.cw ?_;iterate 2 (refine F.aF ?_;try walk_nrm)
  refine F.re ?_;refine F.cf rfl ?_;refine F.sk ?_;refine F.cw ?_;iterate 3 (refine F.aF ?_;try walk_nrm)
  refine F.es ?_;refine F.cw ?_;iterate 3 (refine F.aF ?_;try walk_nrm)
  refine F.re ?_;refine F.ct rfl ?_;refine F.cw ?_;iterate 2 (refine F.aF ?_;try walk_nrm)
  refine F.CK rfl rfl (by decide) (.tmp 23) (.tmp 24) rfl (N:=N) (nb:=nb) o rfl rfl k q p n a b ?_;intro e w' ho j m;try walk_nrm
  refine F.aF ?_;try walk_nrm
  refine F.re ?_;refine F.ctl (λ_=>stepG_ret') ?_;refine F.bJ rfl rfl func60 (resultsC_tmp (by rfl) _) ?_;exact hc _ _ ⟨ho,Kp.grown j,λg (h:g∈bU e)=>by rw[bq]at h ⊢;rcases m with y|y;exact .inl (y▸h);right;exact Option.some.inj (h.symm.trans y)⟩
 |some ad=>
  refine F.cw ?_;iterate 2 (refine F.aF ?_;try walk_nrm)
  refine F.Ac rfl rfl (by decide) (λ_=>(by first|(simp[go_sem,AN,AM];done)|(simp[go_sem,Instr.makeInterface,Instr.makeFunc];done)|(simp[go_sem, *];done))) (λd K i=>?_);go_simp;refine i _ ?_;clear i K d;try walk_nrm
  refine F.dh ?_;iterate 3 (refine F.aF ?_;try walk_nrm)
  refine F.es ?_;refine F.cw ?_;iterate 2 (refine F.aF ?_;try walk_nrm)
  refine F.re ?_;refine F.cf rfl ?_;refine F.sk ?_;refine F.cw ?_;iterate 3 (refine F.aF ?_;try walk_nrm)
  refine F.es ?_;refine F.cw ?_;iterate 3 (refine F.aF ?_;try walk_nrm)
  refine F.re ?_;refine F.ct rfl ?_;refine F.cw ?_;iterate 2 (refine F.aF ?_;try walk_nrm)
  refine F.CK rfl rfl (by decide) (.tmp 23) (.tmp 24) rfl (N:=N) (nb:=nb) o rfl rfl k q p n a b ?_;intro e w' ho j m;try walk_nrm
  refine F.aF ?_;try walk_nrm
  refine F.re ?_;refine F.ctl (λ_=>stepG_ret') ?_;refine F.bJ rfl rfl func60 (resultsC_tmp (by rfl) _) ?_;exact hc _ _ ⟨ho,Kp.grown j,λg (h:g∈bU e)=>by rw[bq]at h ⊢;rcases m with y|y;exact .inl (y▸h);right;exact Option.some.inj (h.symm.trans y)⟩
theorem zv.al{a:aj}{o:Obj}(h:zv N w v)(e:w.alloc o=a):zv N a v:=by
 subst e;refine h.imp id fun⟨E,off,cap,cur,g,d,b,c⟩=>⟨E,off,cap,cur,g,d,?_,c⟩
 rw[Below.heap_alloc _ _ _ (cH.1 b).1];exact b
theorem zv.Wb{B:Nat}(h:zv N w v)(hB:B<N):B∉bU v:=λz=>by
 have:=(h.lt (bq.1 z)).1;omega
theorem One.st{a:aj}{u:ay}{p:Addr}(h:One N w v t f)(e:w.setCell p u=a)(c:p.block∉bU v):One N a v t f:=by
 obtain⟨E,off,cap,cur,b,i,g,d⟩:=h;subst e;refine⟨E,off,cap,cur,b,i,?_,d⟩;subst b;have:p.block≠E:=λz=>c (bq.2 (by simp[Value.ownBlock,z]))
 simp only[World.setCell,rA,this,if_false];exact g
theorem Rn(N A:Nat)(t:Int)(fn:Fn)(fst cap':fW)(v:ay)(w0:aj)(hN:N<=w0.heap.size)(Z:A<N)(D:zv N w0 v)(j:w0.cell? ⟨A,1,none⟩=some v)(p:w0.frozen? ⟨A,1,none⟩=false)(X:Ok ⟨A,1,none⟩ false)(W:Ok ⟨A,1,none⟩ true)(G:∀(a:Addr)(wr:Bool),a.block∈bU v\/w0.heap.size<=a.block->Ok a wr):
 eC prog main (DX Ok) 49 #[.pointer (some ⟨A,0,none⟩),.int .i64 t,.func fn fst cap'] w0 λr w'=>r=.tuple #[]/\Kp (bU v) w0 w' [⟨A,1,none⟩]/\∃M,w'.cell? ⟨A,1,none⟩=some M/\w'.frozen? ⟨A,1,none⟩=false/\One N w' M t (.func fn fst cap')/\∀g∈bU M,g∈bU v\/w0.heap.size<=g:=by
 intro Ψ F c cs hc;obtain⟨base,cap,P,hbc⟩:=D.form;have R:=D.Wb Z;subst P;rw[enter_at _ func49 rfl];simp only[ntmps49,oP,Nat.reduceAdd,Nat.reduceSub];refine F.cw ?_;iterate 3 (refine F.aF ?_;try walk_nrm)
 refine F.ol rfl rfl rfl λd K h=>?_;go_simp;refine h _ (λe m=>?_) ?_;simp[go_sem, *]at m;subst m;exact jB (w:=w0) (by assumption) (by first|assumption|(apply u<;>dsimp only<;>omega));clear h K d;try walk_nrm
 iterate 2 (refine F.aF ?_;try walk_nrm)
 refine F.es ?_;refine F.bl ?_;refine F.ctl (λ_=>stepG_loop) ?_;refine F.sq ?_;refine F.cw ?_;iterate 3 (refine F.aF ?_;try walk_nrm)
 refine F.cU ?_;try walk_nrm
 refine F.cU ?_;try walk_nrm
 refine F.cU ?_;try walk_nrm
 refine F.cU ?_;try walk_nrm
 refine F.cU ?_;try walk_nrm
 refine F.cU ?_;try walk_nrm
 refine F.cU ?_;try walk_nrm
 refine F.cU ?_;try walk_nrm
 refine F.cU ?_;try walk_nrm
 refine F.cU ?_;try walk_nrm
 refine F.cU ?_;try walk_nrm
 refine F.aF ?_;try walk_nrm
 refine F.re ?_;refine F.cf rfl ?_;refine F.ctl (λ_=>stepG_exit rfl) ?_;refine F.zW ?_;iterate 4 (refine F.aF ?_;try walk_nrm)
 refine F.ol rfl rfl rfl λd K h=>?_;go_simp;refine h _ (λe m=>?_) ?_;simp[go_sem, *]at m;subst m;exact jB (w:=w0) (by assumption) (by first|assumption|(apply u<;>dsimp only<;>omega));clear h K d;try walk_nrm
 iterate 4 (refine F.aF ?_;try walk_nrm)
 refine F.op rfl rfl (by decide) (λd K H=>?_);go_simp;rw[alloc_at'];refine H _ _ ⟨DX.alloc _ _ (λe D=>?_),?_⟩
 .have I:=mem_listed D
  simp[go_sem]at I
 clear H K d;try walk_nrm
 generalize b:World.alloc w0 _=T;generalize l:(World.heap w0).size=Y;have V:=p9 b l;replace p:=dG p j b;replace j:=bz j b;have C:=aV (i:=0) b l rfl;have L:=bY b l 0;have B:=aV (i:=1) b l rfl;have J:=bY b l 1;try simp only[rz,rD,rC]at C B
 have s:Kp (bU (.slice base 0 cap)) w0 w0 [⟨A,1,none⟩]:=Kp.refl _;replace s:=s.zb b;have S:=D.al b;refine F.enter rfl rfl (by decide) (λ_=>run_call_body rfl func60 (by rfl) (by rfl)) (λ_=>events_call_body rfl func60 (by rfl) (by rfl) _) ?_;walk_nrm;refine Gw N Y t (.func fn fst cap') _ T (by omega) S C B rfl (λad wr h=>G ad wr (.inl (bq.2 h.symm))) (λad h=>G ad false (.inr (by omega))) Ψ F _ _ (λv w' hp=>?_);obtain⟨ho,O,q⟩:=hp;rw[bO];try walk_nrm
 have n:=O.cell _ _ R j;have k:=(O.O2 _ _ R j).trans p;replace s:=s.Mo O (λx hx=>.inl hx);obtain⟨E,off,cp,cur,P,o2⟩:=id ho;have Q:A∉bU v:=λz=>by rcases q A z with y|y;exact R y;omega
 subst P;clear j p C B L J;iterate 2 (refine F.aF ?_;try walk_nrm)
 refine F.op rfl rfl (by decide) (λd K H=>?_);go_simp;rw[setCell_at'];refine H _ _ ⟨DX.set _ (by(first|assumption|(apply u<;>dsimp only<;>omega))) (λe D=>?_),?_⟩
 .have I:=mem_listed D
  simp[go_sem,storedEv,ey,fQ,ez,gW,fF, *]at I;subst I;exact .inl ⟨_,rfl,rfl,by(first|assumption|(apply u<;>dsimp only<;>omega)),by show _<(World.setCell _ _ _).heap.size;simp[World.setCell];first|omega|exact au (by assumption)⟩
 clear H K d;try walk_nrm
 generalize o:World.setCell w' _ _=w2;have U:=Fh o;replace k:=dV k o;replace n:=jC n o;replace s:=s.Bv o (by first|(left;simp;done)|(right;left;simp;done)|(right;right;dsimp only;omega));refine F.re ?_;refine F.ctl (λ_=>stepG_end) ?_;refine F.bJ rfl rfl func49 (resultsC_none (by rfl) _) ?_;exact hc _ _ ⟨rfl,s,_,n,k,ho.st o Q,λg h=>(q g h).imp id λy=>by omega⟩
end Go.Proofs.YtobagnjnbmgidaaGreatDoor
