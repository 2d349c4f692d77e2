import Derived.Test.YtobagnjnbmgidaaGreatDoorX8
set_option linter.all false
set_option maxHeartbeats 4000000
set_option maxRecDepth 100000
namespace Go.Proofs.YtobagnjnbmgidaaGreatDoor
open Tryz
section
open Go.Conc Go.RowKit
def zP(N:Nat)(w:World)(v:Value):Prop:=v=.slice none 0 0∨∃E off cap cur,v=.slice (some ⟨E,off,none⟩) 0 cap∧N≤E∧w.heap[E]? =some (.cells cur 128 (0,0))∧off+2*cap≤cur.size
def One(N:Nat)(w:World)(v:Value)(t:Int)(f:Value):Prop:=
 ∃E off cap cur,v=.slice (some ⟨E,off,none⟩) 1 (cap+1)∧N≤E∧w.heap[E]? =some (.cells cur 128 (0,0))∧off+2*(cap+1)≤cur.size∧cur[off]? =some (.int .i64 t)∧cur[off+1]? =some f
theorem zP.lt{N:Nat}{w:World}{v:Value}(h:zP N w v){g:Nat}(hg:v.ownBlock=some g):N≤g∧∃cur,w.heap[g]? =some (.cells cur 128 (0,0)):=by
 rcases h with rfl|⟨E,off,cap,cur,rfl,h1,h2,_⟩
 ·cases hg
 ·simp[Value.ownBlock] at hg
  subst hg;exact⟨h1,cur,h2⟩
theorem qS(w:World)(ty:TypeId){N:Nat}(hN:N≤w.heap.size){v f:Value}{t:Int}{nb:Nat}(he:zP N w v)(h0:w.cell? ⟨nb,0,none⟩=some (.int .i64 t))(h1:w.cell? ⟨nb,1,none⟩=some f)(hf:f.oneCell'=true):
 ∃v' w',(Builtin.append_ #[100,100] ty #[v,.slice (some ⟨nb,0,none⟩) 1 1]).run prog w=.ok v' w'∧One N w' v' t f∧w.grownBy w' v.ownBlock∧(v'.ownBlock=v.ownBlock∨v'.ownBlock=some w.heap.size)∧
  ∀ev∈(Builtin.append_ #[100,100] ty #[v,.slice (some ⟨nb,0,none⟩) 1 1]).events prog w #[],(∃ad,ev.loc=.cell ad∧((ev.write=false∧ad.block=nb)∨some ad.block=v.ownBlock))∨ev=noRoomEvent:=by
 obtain⟨inf,z,i1,i2,i3,i4,i5⟩:=kU
 have gz:∀j u,[.int .i64 t,f][j]? =some u→w.cell? ((⟨nb,0,none⟩:Addr).add j)=some u:=by
  intro j u hu;rw[Addr.add_lit,Nat.zero_add]
  match j,hu with
  |0,hu=>simp at hu;subst hu;exact h0
  |1,hu=>simp at hu;subst hu;exact h1
  |j+2,hu=>simp at hu
 have hl:([.int .i64 t,f]:List Value).length=1*inf.size:=by rw[i3];rfl
 have rM:∀u∈([.int .i64 t,f]:List Value),u.oneCell'=true:=by intro u hu;simp at hu;rcases hu with rfl|rfl;rfl;exact hf
 have src:∀(w':World),(∀ad,w'.cell? ad=w.cell? ad)→∀es,∀ev∈(Builtin.firstCells inf.size 1 (.slice (some ⟨nb,0,none⟩) 1 1)).events prog w' es,ev∈es∨ev.readsIn (·=nb):=by
  intro w' yR es;refine events_firstCells_in (P:=prog) (·=nb) inf.size 1 _ w' es fun a l c e=>?_
  cases e
  exact⟨rfl,fun j hj=>by rw[yR];exact isSome_of_list gz (by rw[hl];exact hj)⟩
 have Ly:∀(x:Value)(w':World) es,(∃b c,x=.slice b 0 c)→∀ev∈(Builtin.firstCells inf.size 0 x).events prog w' es,ev∈es:=by
  intro x w' es ⟨b,c,e⟩ ev dS;subst e;cases b with
  |none=>simpa [Builtin.firstCells] using dS
  |some a=>simpa [Builtin.firstCells,loadCells,loadCellsFrom] using dS
 have fin:∀ev:Event,ev.readsIn (·=nb)→(∃ad,ev.loc=.cell ad∧((ev.write=false∧ad.block=nb)∨some ad.block=v.ownBlock))∨ev=noRoomEvent:=fun ev ⟨ad,a1,a2,a3⟩=>.inl ⟨ad,a1,.inl ⟨a2,a3⟩⟩
 have room:∀(x:Nat)(w':World),∀ev∈(askRoom x).events prog w' #[],ev=noRoomEvent:=fun x w' ev dS=>by
  rcases Conc.events_askRoom _ _ _ ev dS with h|⟨m,h,hn⟩
  ·simp at h
  ·rw[h,show m=.noRoom from hn];rfl
 have oO:=run_firstCells_some (P:=prog) w.drew inf.size 1 ⟨nb,0,none⟩ 1 1 [.int .i64 t,f] hl (by simpa using gz);have tO:=run_firstCells_some (P:=prog) w inf.size 1 ⟨nb,0,none⟩ 1 1 [.int .i64 t,f] hl (by simpa using gz)
 have grown:∀old:Nat,old<1→One N (w.drew.alloc (.cells (#[.int .i64 t,f]++Builtin.zeroCells z.cells (grownCap w 1 old 128-1)) 128)) (.slice (some ⟨w.heap.size,0,none⟩) 1 (grownCap w 1 old 128)) t f∧
  w.grownBy (w.drew.alloc (.cells (#[.int .i64 t,f]++Builtin.zeroCells z.cells (grownCap w 1 old 128-1)) 128)) v.ownBlock:=by
  intro old ho;have PN:=grownCap_ge w 1 old 128;obtain⟨c,hc⟩:∃c,grownCap w 1 old 128=c+1:=⟨grownCap w 1 old 128-1,by omega⟩;have e0:(#[.int .i64 t,f]++Builtin.zeroCells z.cells (grownCap w 1 old 128-1))[0]? =some (.int .i64 t):=by rw[Array.getElem?_append_left (by simp)];rfl
  have e1:(#[.int .i64 t,f]++Builtin.zeroCells z.cells (grownCap w 1 old 128-1))[0+1]? =some f:=by rw[Array.getElem?_append_left (by simp)];rfl
  refine⟨⟨w.heap.size,0,c,_,by rw[hc],hN,oB (w:=w.drew) rfl rfl,?_,e0,e1⟩,⟨rfl,rfl,rfl,by simp,fun k hk _=>Below.heap_alloc w.drew _ k hk⟩⟩;simp only[Array.size_append,List.size_toArray,List.length_cons,List.length_nil,size_zeroCells,i5,hc];omega
 rcases he with rfl|⟨E,off,cap,cur,rfl,hE,jL,kH⟩
 ·have hr:=run_append_nil (P:=prog) w 100 ty 128 inf z c9 i1 i2 ⟨nb,0,none⟩ 1 1 [.int .i64 t,f] hl gz (by omega) (by omega) (by omega)
  obtain⟨g1,g2⟩:=grown 0 (by omega);refine⟨_,_,hr,g1,g2,.inr rfl,fun ev dS=>?_⟩;have xp:¬(281474976710656<Builtin.nextslicecap 1 0*inf.bytes):=by rw[nextslicecap_zero (by omega),i4];omega
  simp[Builtin.append_,run_underlying c9,sizeOf,typeInfo,zeroValue,i1,i2,Builtin.lenOf,xp,Question.forced,run_firstCells_none,oO,newRow] at dS;rcases src w.drew (fun _=>rfl) _ ev dS with h|h
  ·have:=Ly _ _ _ ⟨none,0,rfl⟩ ev h
   exact .inr (room _ _ ev this)
  ·exact fin ev h
 ·by_cases uX:cap=0
  ·subst uX
   have hr:=run_append_grow (P:=prog) w 100 ty 128 inf z c9 i1 i2 ⟨E,off,none⟩ 0 0 [] (by simp) (by intro j v h;simp at h) ⟨nb,0,none⟩ 1 1 [.int .i64 t,f] hl gz (by omega) (by omega) (growslice_fits (by omega) (by omega));obtain⟨g1,g2⟩:=grown 0 (by omega);simp only[Nat.zero_add,List.toArray,Array.empty_append] at hr;refine⟨_,_,hr,g1,g2,.inr rfl,fun ev dS=>?_⟩;have xp:¬(281474976710656<Builtin.nextslicecap 1 0*inf.bytes):=by rw[nextslicecap_zero (by omega),i4];omega
   have AV:=run_firstCells_some (P:=prog) w.drew inf.size 0 ⟨E,off,none⟩ 0 0 [] (by simp) (by intro j v h;simp at h);simp[Builtin.append_,run_underlying c9,sizeOf,typeInfo,zeroValue,i1,i2,Builtin.lenOf,xp,Question.forced,AV,oO,newRow] at dS;rcases src w.drew (fun _=>rfl) _ ev dS with h|h
   ·have:=Ly _ _ _ ⟨some ⟨E,off,none⟩,0,rfl⟩ ev h
    exact .inr (room _ _ ev this)
   ·exact fin ev h
  ·have Ci:1≤cap:=by omega
   obtain⟨c,rfl⟩:∃c,cap=c+1:=⟨cap-1,by omega⟩;have bN:=run_storeCells_at (P:=prog) E off 128 [.int .i64 t,f] 0 cur w jL (by simp;omega) rM
   have hr:(Builtin.append_ #[100,100] ty #[.slice (some ⟨E,off,none⟩) 0 (c+1),.slice (some ⟨nb,0,none⟩) 1 1]).run prog w=.ok (.slice (some ⟨E,off,none⟩) 1 (c+1)) (w.setRow E (cur.toList.take off++[.int .i64 t,f]++cur.toList.drop (off+2)).toArray):=by
    simp only[Nat.add_zero,List.length_cons,List.length_nil] at bN;simp[Builtin.append_,run_underlying c9,sizeOf,typeInfo,i1,Builtin.lenOf,tO,Addr.add_lit,bN]
   have cU:(cur.toList.take off++[.int .i64 t,f]++cur.toList.drop (off+2)).toArray.size=cur.size:=by
    simp only[List.size_toArray,List.length_append,List.length_take,List.length_drop,Array.length_toList,List.length_cons,List.length_nil];omega
   have PG:(cur.toList.take off).length=off:=by simp;omega
   refine⟨_,_,hr,⟨E,off,c,_,rfl,hE,setRow_heap w E cur _ 128 _ jL,by rw[cU];exact kH,?_,?_⟩,⟨rfl,rfl,rfl,by simp,fun k _ hk=>setRow_other w E k _ (fun e=>hk (by simp[Value.ownBlock,e]))⟩,.inl rfl,fun ev dS=>?_⟩
   ·rw[List.getElem?_toArray,List.append_assoc,List.getElem?_append_right (by omega),PG];simp
   ·rw[List.getElem?_toArray,List.append_assoc,List.getElem?_append_right (by omega),PG];simp
   ·simp[Builtin.append_,run_underlying c9,sizeOf,typeInfo,i1,Builtin.lenOf,tO,Addr.add_lit] at dS
    rcases events_storeCells_at (P:=prog) E off 128 [.int .i64 t,f] 0 cur w _ jL (by simp;omega) rM ev dS with h|⟨ad,h2,h3⟩
    ·rcases src _ (fun _=>rfl) _ ev h with h|h
     ·simp at h
     ·exact fin ev h
    ·exact .inl ⟨ad,h2,.inr (by simp[Value.ownBlock,h3])⟩
theorem aC.CX{main:Bool}{Ok:Addr→Bool→Prop}{Ψ:Goroutine→World→Prop}{b:Frame}{a:Act}{k:List Item}{cs:List Frame}{w:World}(F:aC prog main (DX Ok) Ψ){ops:Array Oper}{i:Nat}{rest:List Nat}{o:Oper}(ho:ops[i]? =some o)(hw:Region.wanted o (yielded ops a.tmps)=true)(hk:b.kind≠.early)(s x:Operand)(aQ:o.op=.call {callee:=.builtin .append,args:=#[s,x],argTypes:=#[100,100]}){N nb:Nat}{v f:Value}{t:Int}(hN:N≤w.heap.size)(hs:a.eval s=v)(hx:a.eval x=.slice (some ⟨nb,0,none⟩) 1 1)(he:zP N w v)(h0:w.cell? ⟨nb,0,none⟩=some (.int .i64 t))(h1:w.cell? ⟨nb,1,none⟩=some f)(hf:f.oneCell'=true)(ko:∀(ad:Addr)(wr:Bool),some ad.block=v.ownBlock→Ok ad wr)(rG:∀ad:Addr,ad.block=nb→Ok ad false)(h:∀v' w',One N w' v' t f→w.grownBy w' v.ownBlock→(v'.ownBlock=v.ownBlock∨v'.ownBlock=some w.heap.size)→Ψ (G (b.at (a.put o.dst v') (.inRegion ops rest::k)) cs) w'):
 Ψ (G (b.at a (.inRegion ops (i::rest)::k)) cs) w:=by
 refine F.Pw ho hw hk fun d K hK=>?_
 obtain⟨v',w',hr,eF,hg,hb,dS⟩:=qS (w.at d) o.type (N:=N) hN (v:=v) he h0 h1 hf;refine uponK_append s x 100 aQ hs hx hr (hK _ w' ⟨⟨fun ev hv=>?_,hg.size,fun c ob EW hn=>?_,fun ad qy aT=>?_,fun kk cB RY=>hg.block kk cB (fun z=>RY ⟨kk,0,none⟩ rfl (ko _ _ z)),hg.os,hg.tape,hg.output⟩,h v' w' eF ⟨hg.os,hg.tape,hg.output,hg.size,hg.block⟩ hb⟩)
 ·have hm:=mem_listed hv
  rw[events_append_op s x 100 aQ hs hx] at hm;rcases dS ev hm with ⟨ad,e1,⟨e2,e3⟩|e2⟩|e1
  ·exact .inl ⟨ad,e1,rfl,by rw[e2];exact rG ad e3,by rw[e3];exact Nat.lt_of_lt_of_le (aq (w:=w) h0) hg.size⟩
  ·obtain⟨q1,cur,q2⟩:=zP.lt he e2.symm
   exact .inl ⟨ad,e1,rfl,ko _ _ e2,Nat.lt_of_lt_of_le (Array.getElem?_eq_some_iff.1 q2).1 hg.size⟩
  ·exact .inr e1
 ·have aN:some c≠v.ownBlock:=fun z=>by
   obtain⟨_,cur,q2⟩:=zP.lt he z.symm;have:w.heap[c]? =some ob:=EW;rw[q2] at this;exact hn _ _ _ (Option.some.inj this).symm
  exact(hg.block c (Array.getElem?_eq_some_iff.1 EW).1 aN).trans EW
 ·have aN:some ad.block≠v.ownBlock:=fun z=>qy (ko _ _ z)
  have:=hg.block _ aT aN;exact⟨World.cell?_of_block this,World.frozen?_of_block this⟩
end
section
open Go.Conc Go.RowKit
variable{main:Bool}{Ok:Addr→Bool→Prop}
theorem Ba(w:World)(b:Option Addr)(c:Nat):(Instr.sliceAt 100 (.slice b 0 c) (some (.int .i64 0)) none none).events prog w #[]=#[]:=by
 simp[Instr.sliceAt,run_underlying c9,Instr.slice,Instr.sliceBounds,Instr.sliceBound,asInt,asIntOf]
theorem A9(w:World)(b:Option Addr)(c:Nat):(Instr.sliceAt 100 (.slice b 1 (c+1)) (some (.int .i64 1)) none none).events prog w #[]=#[]:=by
 simp[Instr.sliceAt,run_underlying c9,Instr.slice,Instr.sliceBounds,Instr.sliceBound,asInt,asIntOf]
theorem zP.form{N:Nat}{w:World}{v:Value}(h:zP N w v):∃base cap,v=.slice base 0 cap∧(base=none→cap=0):=by
 rcases h with rfl|⟨E,off,cap,cur,rfl,_⟩
 ·exact⟨none,0,rfl,fun _=>rfl⟩
 ·exact⟨some ⟨E,off,none⟩,cap,rfl,fun h=>by cases h⟩
theorem GM(N nb:Nat)(t:Int)(f v:Value)(w0:World)(hN:N≤w0.heap.size)(he:zP N w0 v)(h0:w0.cell? ⟨nb,0,none⟩=some (.int .i64 t))(h1:w0.cell? ⟨nb,1,none⟩=some f)(hf:f.oneCell'=true)(ko:∀(ad:Addr)(wr:Bool),some ad.block=v.ownBlock→Ok ad wr)(rG:∀ad:Addr,ad.block=nb→Ok ad false):
 cj prog main (DX Ok) 60 #[v,.int .i64 0,.slice (some ⟨nb,0,none⟩) 1 1] w0 fun v' w'=>One N w' v' t f∧Kp (bV v) w0 w'∧∀g∈bV v',g∈bV v∨g=w0.heap.size:=by
 intro Ψ F c cs hc;obtain⟨base,cap,hv,E6⟩:=he.form;subst hv;rw[enter_at _ func60 rfl];simp only[ntmps60,mV,Nat.reduceAdd,Nat.reduceSub];refine F.bh ?_;refine F.ak ?_;try walk_nrm
 refine F.re ?_;cases base with
 |none=>
  obtain rfl:=E6 rfl;refine F.bh ?_;iterate 2 (refine F.ak ?_;try walk_nrm)
  refine F.xT rfl rfl (by decide) (fun _=>(by first|(simp[go_sem,Ba,A9];done)|(simp[go_sem,Instr.makeInterface,Instr.makeFunc];done)|(simp[go_sem, *];done))) (fun d K hK=>?_);go_simp;refine hK _ ?_;clear hK K d;try walk_nrm
  refine F.cI ?_;iterate 3 (refine F.ak ?_;try walk_nrm)
  refine F.es ?_;refine F.bh ?_;iterate 2 (refine F.ak ?_;try walk_nrm)
  refine F.re ?_;refine F.cf rfl ?_;refine F.sk ?_;refine F.bh ?_;iterate 3 (refine F.ak ?_;try walk_nrm)
  refine F.es ?_;refine F.bh ?_;iterate 3 (refine F.ak ?_;try walk_nrm)
  refine F.re ?_;refine F.ct rfl ?_;refine F.bh ?_;iterate 2 (refine F.ak ?_;try walk_nrm)
  refine F.CX rfl rfl (by decide) (.tmp 23) (.tmp 24) rfl (N:=N) (nb:=nb) hN rfl rfl he h0 h1 hf ko rG ?_;intro v' w' ho hg hb;try walk_nrm
  refine F.ak ?_;try walk_nrm
  refine F.re ?_;refine F.ctl (fun _=>stepG_ret') ?_;refine F.aF rfl rfl func60 (resultsC_tmp (by rfl) _) ?_;exact hc _ _ ⟨ho,Kp.grown hg,fun g (h:g∈bV v')=>by rw[br] at h ⊢;rcases hb with y|y;exact .inl (y▸h);right;exact Option.some.inj (h.symm.trans y)⟩
 |some ad=>
  refine F.bh ?_;iterate 2 (refine F.ak ?_;try walk_nrm)
  refine F.xT rfl rfl (by decide) (fun _=>(by first|(simp[go_sem,Ba,A9];done)|(simp[go_sem,Instr.makeInterface,Instr.makeFunc];done)|(simp[go_sem, *];done))) (fun d K hK=>?_);go_simp;refine hK _ ?_;clear hK K d;try walk_nrm
  refine F.cI ?_;iterate 3 (refine F.ak ?_;try walk_nrm)
  refine F.es ?_;refine F.bh ?_;iterate 2 (refine F.ak ?_;try walk_nrm)
  refine F.re ?_;refine F.cf rfl ?_;refine F.sk ?_;refine F.bh ?_;iterate 3 (refine F.ak ?_;try walk_nrm)
  refine F.es ?_;refine F.bh ?_;iterate 3 (refine F.ak ?_;try walk_nrm)
  refine F.re ?_;refine F.ct rfl ?_;refine F.bh ?_;iterate 2 (refine F.ak ?_;try walk_nrm)
  refine F.CX rfl rfl (by decide) (.tmp 23) (.tmp 24) rfl (N:=N) (nb:=nb) hN rfl rfl he h0 h1 hf ko rG ?_;intro v' w' ho hg hb;try walk_nrm
  refine F.ak ?_;try walk_nrm
  refine F.re ?_;refine F.ctl (fun _=>stepG_ret') ?_;refine F.aF rfl rfl func60 (resultsC_tmp (by rfl) _) ?_;exact hc _ _ ⟨ho,Kp.grown hg,fun g (h:g∈bV v')=>by rw[br] at h ⊢;rcases hb with y|y;exact .inl (y▸h);right;exact Option.some.inj (h.symm.trans y)⟩
theorem zP.al{N:Nat}{w w₁:World}{v:Value}{o:Obj}(h:zP N w v)(e:w.alloc o=w₁):zP N w₁ v:=by
 subst e;refine h.imp id fun⟨E,off,cap,cur,h1,h2,h3,h4⟩=>⟨E,off,cap,cur,h1,h2,?_,h4⟩
 rw[Below.heap_alloc _ _ _ (Array.getElem?_eq_some_iff.1 h3).1];exact h3
theorem zP.VA{N B:Nat}{w:World}{v:Value}(h:zP N w v)(hB:B<N):B∉bV v:=fun z=>by
 have:=(h.lt (br.1 z)).1;omega
theorem One.st{N:Nat}{w w₁:World}{v f u:Value}{t:Int}{p:Addr}(h:One N w v t f)(e:w.setCell p u=w₁)(hp:p.block∉bV v):One N w₁ v t f:=by
 obtain⟨E,off,cap,cur,h1,h2,h3,h4⟩:=h;subst e;refine⟨E,off,cap,cur,h1,h2,?_,h4⟩;subst h1;have:p.block≠E:=fun z=>hp (br.2 (by simp[Value.ownBlock,z]))
 simp only[World.setCell,Array.getElem?_modify,this,if_false];exact h3
theorem QN(N A:Nat)(t:Int)(fn:Fn)(fst aj:Array Value)(v:Value)(w0:World)(hN:N≤w0.heap.size)(lA:A<N)(he:zP N w0 v)(dw:w0.cell? ⟨A,1,none⟩=some v)(gZ:w0.frozen? ⟨A,1,none⟩=false)(Ur:Ok ⟨A,1,none⟩ false)(Zm:Ok ⟨A,1,none⟩ true)(qj:∀(a:Addr)(wr:Bool),a.block∈bV v∨w0.heap.size≤a.block→Ok a wr):
 cj prog main (DX Ok) 49 #[.pointer (some ⟨A,0,none⟩),.int .i64 t,.func fn fst aj] w0 fun r w'=>r=.tuple #[]∧Kp (bV v) w0 w' [⟨A,1,none⟩]∧∃v',w'.cell? ⟨A,1,none⟩=some v'∧w'.frozen? ⟨A,1,none⟩=false∧One N w' v' t (.func fn fst aj)∧∀g∈bV v',g∈bV v∨w0.heap.size≤g:=by
 intro Ψ F c cs hc;obtain⟨base,cap,hv,E6⟩:=he.form;have hq:=he.VA lA;subst hv;rw[enter_at _ func49 rfl];simp only[ntmps49,mV,Nat.reduceAdd,Nat.reduceSub];refine F.bh ?_;iterate 3 (refine F.ak ?_;try walk_nrm)
 refine F.ol rfl rfl rfl fun d K h=>?_;go_simp;refine h _ (fun e m=>?_) ?_;simp[go_sem, *] at m;subst m;exact ff (w:=w0) (by assumption) (by first|assumption|(apply b8<;>dsimp only<;>omega));clear h K d;try walk_nrm
 iterate 2 (refine F.ak ?_;try walk_nrm)
 refine F.es ?_;refine F.bl ?_;refine F.ctl (fun _=>stepG_loop) ?_;refine F.sq ?_;refine F.bh ?_;iterate 3 (refine F.ak ?_;try walk_nrm)
 refine F.bq ?_;try walk_nrm
 refine F.bq ?_;try walk_nrm
 refine F.bq ?_;try walk_nrm
 refine F.bq ?_;try walk_nrm
 refine F.bq ?_;try walk_nrm
 refine F.bq ?_;try walk_nrm
 refine F.bq ?_;try walk_nrm
 refine F.bq ?_;try walk_nrm
 refine F.bq ?_;try walk_nrm
 refine F.bq ?_;try walk_nrm
 refine F.bq ?_;try walk_nrm
 refine F.ak ?_;try walk_nrm
 refine F.re ?_;refine F.cf rfl ?_;refine F.ctl (fun _=>stepG_exit rfl) ?_;refine F.nJ ?_;iterate 4 (refine F.ak ?_;try walk_nrm)
 refine F.ol rfl rfl rfl fun d K h=>?_;go_simp;refine h _ (fun e m=>?_) ?_;simp[go_sem, *] at m;subst m;exact ff (w:=w0) (by assumption) (by first|assumption|(apply b8<;>dsimp only<;>omega));clear h K d;try walk_nrm
 iterate 4 (refine F.ak ?_;try walk_nrm)
 refine F.op rfl rfl (by decide) (fun d K hK=>?_);go_simp;rw[alloc_at'];refine hK _ _ ⟨DX.alloc _ _ (fun e he=>?_),?_⟩
 ·have hm:=mem_listed he
  simp[go_sem] at hm
 clear hK K d;try walk_nrm
 generalize bJ:World.alloc w0 _=w1;generalize cP:(World.heap w0).size=n1;have v8:=jV bJ cP;replace gZ:=ez gZ dw bJ;replace dw:=bH dw bJ;have PO:=aI (i:=0) bJ cP rfl;have Vh:=aV bJ cP 0;have Cw:=aI (i:=1) bJ cP rfl;have Vg:=aV bJ cP 1;try simp only[List.getElem_toArray,List.getElem_cons_zero,List.getElem_cons_succ] at PO Cw
 have kp:Kp (bV (.slice base 0 cap)) w0 w0 [⟨A,1,none⟩]:=Kp.refl _;replace kp:=kp.uA bJ;have hem:=he.al bJ;refine F.enter rfl rfl (by decide) (fun _=>run_call_body rfl func60 (by rfl) (by rfl)) (fun _=>events_call_body rfl func60 (by rfl) (by rfl) _) ?_;walk_nrm;refine GM N n1 t (.func fn fst aj) _ w1 (by omega) hem PO Cw rfl (fun ad wr h=>qj ad wr (.inl (br.2 h.symm))) (fun ad h=>qj ad false (.inr (by omega))) Ψ F _ _ (fun v w' hp=>?_);obtain⟨ho,kg,kD⟩:=hp;rw[Frame.finish_at];try walk_nrm
 have u0:=kg.cell _ _ hq dw;have uC:=(kg.OG _ _ hq dw).trans gZ;replace kp:=kp.Mp kg (fun x hx=>.inl hx);obtain⟨E,off,cp,cur,hv,o2⟩:=id ho;have Ck:A∉bV v:=fun z=>by rcases kD A z with y|y;exact hq y;omega
 subst hv;clear dw gZ PO Cw Vh Vg;iterate 2 (refine F.ak ?_;try walk_nrm)
 refine F.op rfl rfl (by decide) (fun d K hK=>?_);go_simp;rw[setCell_at'];refine hK _ _ ⟨DX.set _ (by(first|assumption|(apply b8<;>dsimp only<;>omega))) (fun e he=>?_),?_⟩
 ·have hm:=mem_listed he
  simp[go_sem,storedEv,dh,eM,dm,fB,eB, *] at hm;subst hm;exact .inl ⟨_,rfl,rfl,by(first|assumption|(apply b8<;>dsimp only<;>omega)),by show _<(World.setCell _ _ _).heap.size;simp[World.setCell];first|omega|exact aq (by assumption)⟩
 clear hK K d;try walk_nrm
 generalize c7:World.setCell w' _ _=w2;have Io:=jA c7;replace uC:=aK uC c7;replace u0:=dP u0 c7;replace kp:=kp.rD c7 (by first|(left;simp;done)|(right;left;simp;done)|(right;right;dsimp only;omega));refine F.re ?_;refine F.ctl (fun _=>stepG_end) ?_;refine F.aF rfl rfl func49 (resultsC_none (by rfl) _) ?_;exact hc _ _ ⟨rfl,kp,_,u0,uC,ho.st c7 Ck,fun g h=>(kD g h).imp id fun y=>by omega⟩
end
end Go.Proofs.YtobagnjnbmgidaaGreatDoor
