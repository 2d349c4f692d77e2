import Derived.Test.YtobagnjnbmgidaaGreatDoorX12
import Derived.Lib.Overlaps
import Derived.Lib.AppendZerosOnto
set_option linter.all false
set_option maxRecDepth 100000
namespace Go.Proofs.YtobagnjnbmgidaaGreatDoor
open Tryz
section
open Go.Conc Go.RowKit
def flat:List (Int×Value)→List Value
 |[]=>[]
 |e::es=>.int .i64 e.1::e.2::flat es
theorem gO:∀es:List (Int×Value),(flat es).length=2*es.length
 |[]=>rfl
 |e::es=>by simp[flat,gO es];omega
theorem mD:∀a b:List (Int×Value),flat (a++b)=flat a++flat b
 |[],_=>rfl
 |e::es,b=>by simp[flat,mD es b]
theorem zf:∀es:List (Int×Value),(∀e∈es,e.2.oneCell'=true)→∀u∈flat es,u.oneCell'=true
 |[],_,u,hu=>by cases hu
 |e::es,h,u,hu=>by
  simp only[flat,List.mem_cons] at hu;rcases hu with rfl|rfl|hu
  ·rfl
  ·exact h e (by simp)
  ·exact zf es (fun x hx=>h x (List.mem_cons_of_mem _ hx)) u hu
theorem vI:∀(es:List (Int×Value))(i:Nat),flat (es.take i)=(flat es).take (2*i)
 |[],i=>by simp[flat]
 |e::es,0=>by simp[flat]
 |e::es,i+1=>by rw[show 2*(i+1)=2*i+1+1 by omega];simp[flat,vI es i]
theorem vJ:∀(es:List (Int×Value))(i:Nat),flat (es.drop i)=(flat es).drop (2*i)
 |[],i=>by simp[flat]
 |e::es,0=>by simp[flat]
 |e::es,i+1=>by rw[show 2*(i+1)=2*i+1+1 by omega];simp[flat,vJ es i]
def fU(N:Nat)(w:World)(v:Value)(es:List (Int×Value)):Prop:=
 (∀e∈es,e.2.oneCell'=true)∧((v=.slice none 0 0∧es=[])∨
   ∃E off cap cur,v=.slice (some ⟨E,off,none⟩) es.length cap∧es.length≤cap∧N≤E∧w.heap[E]? =some (.cells cur 128 (0,0))∧off+2*cap≤cur.size∧∀(j:Nat)(u:Value),(flat es)[j]? =some u→cur[off+j]? =some u)
theorem fU.lt{N:Nat}{w:World}{v:Value}{es:List (Int×Value)}(h:fU N w v es){g:Nat}(hg:v.ownBlock=some g):N≤g∧∃cur,w.heap[g]? =some (.cells cur 128 (0,0)):=by
 rcases h.2 with ⟨rfl,_⟩|⟨E,off,cap,cur,rfl,_,h1,h2,_⟩
 ·cases hg
 ·simp[Value.ownBlock] at hg
  subst hg;exact⟨h1,cur,h2⟩
theorem fU.form{N:Nat}{w:World}{v:Value}{es:List (Int×Value)}(h:fU N w v es):∃base cap,v=.slice base es.length cap∧es.length≤cap∧(base=none→cap=0)∧∀b,base=some b→b.spot=none:=by
 rcases h.2 with ⟨rfl,rfl⟩|⟨E,off,cap,cur,rfl,hc,_⟩
 ·exact⟨none,0,rfl,Nat.le_refl _,fun _=>rfl,fun b hb=>by cases hb⟩
 ·exact⟨some ⟨E,off,none⟩,cap,rfl,hc,fun h=>(by cases h),fun b hb=>by cases hb;rfl⟩
theorem Kp.cy{L:List Nat}{C:List Addr}{w w':World}{N:Nat}{v:Value}{es:List (Int×Value)}(h:Kp L w w' C)(r:fU N w v es)(hn:∀g∈bV v,g∉L∧∀x∈C,x.block≠g):fU N w' v es:=by
 refine⟨r.1,r.2.imp id fun⟨E,off,cap,cur,h1,h2,h3,h4,h5⟩=>⟨E,off,cap,cur,h1,h2,h3,?_,h5⟩⟩;have:=hn E (br.2 (by rw[h1];rfl));exact h.blk E _ _ _ this.1 this.2 h4
theorem fq(cur:Array Value)(p:Nat)(vs:List Value)(hp:p+vs.length≤cur.size)(k:Nat):(cur.toList.take p++vs++cur.toList.drop (p+vs.length)).toArray[k]? =if k<p then cur[k]? else if k<p+vs.length then vs[k-p]? else cur[k]? :=by
 have ht:(cur.toList.take p).length=p:=by simp;omega
 rw[List.getElem?_toArray,List.append_assoc]
 by_cases h1:k<p
 ·rw[if_pos h1,List.getElem?_append_left (by omega),List.getElem?_take_of_lt h1,Array.getElem?_toList]
 ·rw[if_neg h1,List.getElem?_append_right (by omega),ht]
  by_cases h2:k<p+vs.length
  ·rw[if_pos h2,List.getElem?_append_left (by omega)]
  ·rw[if_neg h2,List.getElem?_append_right (by omega),List.getElem?_drop,Array.getElem?_toList]
   congr 1;omega
theorem qQ(cur:Array Value)(p:Nat)(vs:List Value)(hp:p+vs.length≤cur.size):(cur.toList.take p++vs++cur.toList.drop (p+vs.length)).toArray.size=cur.size:=by
 simp only[List.size_toArray,List.length_append,List.length_take,List.length_drop,Array.length_toList];omega
theorem pQ{w:World}{E k:Nat}{cur:Array Value}{t:TypeId}{fr:Nat×Nat}(h:w.heap[E]? =some (.cells cur t fr)):w.cell? ⟨E,k,none⟩=cur[k]? :=by simp[World.cell?,h]
theorem D3(w:World)(ty:TypeId){E o dl dc:Nat}{cur:Array Value}{b:Addr}{sl sc n:Nat}{cs:List Value}(hE:w.heap[E]? =some (.cells cur 128 (0,0)))(hn:n=Nat.min sl dl)(hl:cs.length=2*n)(AW:o+cs.length≤cur.size)(zJ:∀j u,cs[j]? =some u→w.cell? (b.add j)=some u)(h1:∀u∈cs,u.oneCell'=true):
 (Builtin.copy_ #[100,100] ty #[.slice (some ⟨E,o,none⟩) dl dc,.slice (some b) sl sc]).run prog w=.ok (goInt n) (w.setRow E (cur.toList.take o++cs++cur.toList.drop (o+cs.length)).toArray)∧
   ∀ev∈(Builtin.copy_ #[100,100] ty #[.slice (some ⟨E,o,none⟩) dl dc,.slice (some b) sl sc]).events prog w #[],∃ad,ev.loc=.cell ad∧((ev.write=false∧ad.block=b.block)∨ad.block=E):=by
 obtain⟨inf,z,i1,i2,i3,i4,i5⟩:=kU;have dr:cs.length=n*inf.size:=by rw[i3];omega
 have hf:=run_firstCells_some (P:=prog) w inf.size n b sl sc cs dr zJ;have bN:=run_storeCells_at (P:=prog) E o 128 cs 0 cur w hE (by omega) h1;simp only[Nat.add_zero] at bN;subst hn
 constructor
 ·simp[Builtin.copy_,run_underlying c9,sizeOf,typeInfo,i1,Builtin.lenOf,hf,bN]
 ·intro ev dS
  simp[Builtin.copy_,run_underlying c9,sizeOf,typeInfo,i1,Builtin.lenOf,hf] at dS;rcases events_storeCells_at (P:=prog) E o 128 cs 0 cur w _ hE (by omega) h1 ev dS with h|⟨ad,h2,h3⟩
  ·rcases events_firstCells_in (P:=prog) (·=b.block) inf.size (Nat.min sl dl) _ w _ (fun a l c e=>by
    cases e
    exact⟨rfl,fun j hj=>isSome_of_list zJ (by rw[dr];exact hj)⟩) ev h with h|⟨ad,a1,a2,a3⟩
   ·simp at h
   ·exact⟨ad,a1,.inl ⟨a2,a3⟩⟩
  ·exact⟨ad,h2,.inr h3⟩
end
section
open Go.Conc Go.RowKit
theorem wC(x:Nat)(w':World):∀ev∈(askRoom x).events prog w' #[],ev=noRoomEvent:=fun ev dS=>by
 rcases Conc.events_askRoom _ _ _ ev dS with h|⟨m,h,hn⟩
 ·simp at h
 ·rw[h,show m=.noRoom from hn];rfl
theorem pR{w:World}{E off:Nat}{cur:Array Value}{xs:List Value}(h:w.heap[E]? =some (.cells cur 128 (0,0)))(hx:∀(j:Nat)(u:Value),xs[j]? =some u→cur[off+j]? =some u):∀j u,xs[j]? =some u→w.cell? ((⟨E,off,none⟩:Addr).add j)=some u:=fun j u hu=>by
 rw[Addr.add_lit,pQ h];exact hx j u hu
theorem yA(w:World)(ty:TypeId){N:Nat}(hN:N≤w.heap.size){v f:Value}{t:Int}{nb:Nat}{es:List (Int×Value)}(hq:es.length<1000)(he:fU N w v es)(h0:w.cell? ⟨nb,0,none⟩=some (.int .i64 t))(h1:w.cell? ⟨nb,1,none⟩=some f)(hf:f.oneCell'=true):
 ∃v' w',(Builtin.append_ #[100,100] ty #[v,.slice (some ⟨nb,0,none⟩) 1 1]).run prog w=.ok v' w'∧fU N w' v' (es++[(t,f)])∧w.grownBy w' v.ownBlock∧(v'.ownBlock=v.ownBlock∨v'.ownBlock=some w.heap.size)∧
  ∀ev∈(Builtin.append_ #[100,100] ty #[v,.slice (some ⟨nb,0,none⟩) 1 1]).events prog w #[],(∃ad,ev.loc=.cell ad∧((ev.write=false∧ad.block=nb)∨some ad.block=v.ownBlock))∨ev=noRoomEvent:=by
 have aB:∀e∈es++[(t,f)],e.2.oneCell'=true:=fun e hm=>by
  rcases List.mem_append.1 hm with h|h
  ·exact he.1 e h
  ·simp at h;subst h;exact hf
 rcases he.2 with ⟨rfl,rfl⟩|⟨E,off,cap,cur,rfl,hle,hE,jL,kH,pF⟩
 ·obtain⟨v',w',r1,⟨E,off,cap,cur,rfl,o2,o3,o4,o5,o6⟩,r3,r4,r5⟩:=qS w ty hN (v:=.slice none 0 0) (.inl rfl) h0 h1 hf
  refine⟨_,w',r1,⟨aB,.inr ⟨E,off,cap+1,cur,rfl,by simp,o2,o3,o4,fun j u hu=>?_⟩⟩,r3,r4,r5⟩
  match j,hu with
  |0,hu=>simp[flat] at hu;subst hu;exact o5
  |1,hu=>simp[flat] at hu;subst hu;exact o6
  |j+2,hu=>simp[flat] at hu
 obtain⟨inf,z,i1,i2,i3,i4,i5⟩:=kU
 have gz:∀j u,[.int .i64 t,f][j]? =some u→w.cell? ((⟨nb,0,none⟩:Addr).add j)=some u:=by
  intro j u hu;rw[Addr.add_lit,Nat.zero_add]
  match j,hu with
  |0,hu=>simp at hu;subst hu;exact h0
  |1,hu=>simp at hu;subst hu;exact h1
  |j+2,hu=>simp at hu
 have hl:([.int .i64 t,f]:List Value).length=1*inf.size:=by rw[i3];rfl
 have PJ:(flat es).length=es.length*inf.size:=by rw[i3,gO];omega
 have rM:∀u∈([.int .i64 t,f]:List Value),u.oneCell'=true:=by intro u hu;simp at hu;rcases hu with rfl|rfl;rfl;exact hf
 have holds:=pR (w:=w) jL pF
 have src:∀(w':World),(∀ad,w'.cell? ad=w.cell? ad)→∀es,∀ev∈(Builtin.firstCells inf.size 1 (.slice (some ⟨nb,0,none⟩) 1 1)).events prog w' es,ev∈es∨ev.readsIn (·=nb):=by
  intro w' yR es;refine events_firstCells_in (P:=prog) (·=nb) inf.size 1 _ w' es fun a l c e=>?_
  cases e
  exact⟨rfl,fun j hj=>by rw[yR];exact isSome_of_list gz (by rw[hl];exact hj)⟩
 have fin:∀ev:Event,ev.readsIn (·=nb)→(∃ad,ev.loc=.cell ad∧((ev.write=false∧ad.block=nb)∨some ad.block=(Value.slice (some ⟨E,off,none⟩) es.length cap).ownBlock))∨ev=noRoomEvent:=fun ev ⟨ad,a1,a2,a3⟩=>.inl ⟨ad,a1,.inl ⟨a2,a3⟩⟩
 have LZ:flat (es++[(t,f)])=flat es++[.int .i64 t,f]:=mD _ _;have oO:=run_firstCells_some (P:=prog) w.drew inf.size 1 ⟨nb,0,none⟩ 1 1 [.int .i64 t,f] hl (by simpa using gz);have tO:=run_firstCells_some (P:=prog) w inf.size 1 ⟨nb,0,none⟩ 1 1 [.int .i64 t,f] hl (by simpa using gz)
 by_cases uX:es.length<cap
 ·have bN:=run_storeCells_at (P:=prog) E (off+es.length*2) 128 [.int .i64 t,f] 0 cur w jL (by simp;omega) rM
  have hr:(Builtin.append_ #[100,100] ty #[.slice (some ⟨E,off,none⟩) es.length cap,.slice (some ⟨nb,0,none⟩) 1 1]).run prog w=.ok (.slice (some ⟨E,off,none⟩) (es.length+1) cap) (w.setRow E (cur.toList.take (off+es.length*2)++[.int .i64 t,f]++cur.toList.drop (off+es.length*2+2)).toArray):=by
   simp only[Nat.add_zero,List.length_cons,List.length_nil] at bN;have qv:es.length+1≤cap:=uX;simp[Builtin.append_,run_underlying c9,sizeOf,typeInfo,i1,i3,Builtin.lenOf,Addr.add_lit,bN,qv];rw[i3] at tO;simp[tO,bN]
  have G4:([.int .i64 t,f]:List Value).length=2:=rfl;have hp:off+es.length*2+([.int .i64 t,f]:List Value).length≤cur.size:=by rw[G4];omega
  refine⟨_,_,hr,⟨aB,.inr ⟨E,off,cap,_,by simp,by simp;omega,hE,setRow_heap w E cur _ 128 _ jL,by have LK:=qQ cur _ _ hp;rw[G4] at LK;rw[LK];exact kH,fun j u hu=>?_⟩⟩,⟨rfl,rfl,rfl,by simp,fun k _ hk=>setRow_other w E k _ (fun e=>hk (by simp[Value.ownBlock,e]))⟩,.inl rfl,fun ev dS=>?_⟩
  ·have oL:=fq cur _ _ hp (off+j)
   rw[G4] at oL;rw[oL];rw[LZ] at hu
   by_cases hj:j<(flat es).length
   ·rw[List.getElem?_append_left hj] at hu
    rw[if_pos (by rw[gO] at hj;omega)];exact pF j u hu
   ·rw[List.getElem?_append_right (by omega)] at hu
    have nN:j-(flat es).length<2:=by
     rcases Nat.lt_or_ge (j-(flat es).length) 2 with x|x
     ·exact x
     ·rw[List.getElem?_eq_none (by simpa using x)] at hu;cases hu
    rw[gO] at hj nN hu;rw[if_neg (by omega),if_pos (by omega),show off+j-(off+es.length*2)=j-2*es.length by omega];exact hu
  ·have qv:es.length+1≤cap:=uX
   rw[i3] at tO;simp[Builtin.append_,run_underlying c9,sizeOf,typeInfo,i1,i3,Builtin.lenOf,tO,Addr.add_lit,qv] at dS;rcases events_storeCells_at (P:=prog) E (off+es.length*2) 128 [.int .i64 t,f] 0 cur w _ jL (by simp;omega) rM ev dS with h|⟨ad,h2,h3⟩
   ·rw[i3] at src
    rcases src _ (fun _=>rfl) _ ev h with h|h
    ·simp at h
    ·exact fin ev h
   ·exact .inl ⟨ad,h2,.inr (by simp[Value.ownBlock,h3])⟩
 ·have hce:cap=es.length:=by omega
  have hr:=run_append_grow (P:=prog) w 100 ty 128 inf z c9 i1 i2 ⟨E,off,none⟩ es.length cap (flat es) PJ holds ⟨nb,0,none⟩ 1 1 [.int .i64 t,f] hl gz (by omega) (by omega) (growslice_fits (by omega) (by rw[i4];omega));have PN:=grownCap_ge w (es.length+1) cap 128;refine⟨_,_,hr,⟨aB,.inr ⟨w.heap.size,0,grownCap w (es.length+1) cap 128,_,by simp,by simpa using PN,hN,oB (w:=w.drew) rfl rfl,?_,fun j u hu=>?_⟩⟩,⟨rfl,rfl,rfl,by simp,fun k hk _=>Below.heap_alloc w.drew _ k hk⟩,.inr rfl,fun ev dS=>?_⟩
  ·simp only[Array.size_append,List.size_toArray,List.length_append,List.length_cons,List.length_nil,size_zeroCells,i5,gO]
   omega
  ·rw[LZ] at hu
   have hj:j<(flat es++[.int .i64 t,f]).length:=(List.getElem?_eq_some_iff.1 hu).1;rw[Nat.zero_add,Array.getElem?_append_left (by simpa using hj),List.getElem?_toArray]
   simpa using hu
  ·have xp:¬(281474976710656<Builtin.nextslicecap (es.length+1) cap*inf.bytes):=by
    have:=growslice_fits (need:=es.length+1) (old:=cap) (bytes:=inf.bytes) (by omega) (by rw[i4];omega);omega
   have AV:=run_firstCells_some (P:=prog) w.drew inf.size es.length ⟨E,off,none⟩ es.length cap (flat es) PJ holds;have qv:¬(es.length+1≤cap):=by omega
   have IF:¬((9223372036854775807:Int)<(es.length:Int)+1):=by omega
   simp[Builtin.append_,run_underlying c9,sizeOf,typeInfo,zeroValue,i1,i2,Builtin.lenOf,xp,Question.forced,AV,oO,newRow,qv,IF] at dS;rcases src w.drew (fun _=>rfl) _ ev dS with h|h
   ·rcases events_firstCells_in (P:=prog) (·=E) inf.size es.length _ w.drew _ (fun a l c e=>by
     cases e
     exact⟨rfl,fun j hj=>isSome_of_list (w:=w.drew) holds (by rw[PJ];exact hj)⟩) ev h with h|⟨ad,a1,a2,a3⟩
    ·exact .inr (wC _ _ ev h)
    ·exact .inl ⟨ad,a1,.inr (by simp[Value.ownBlock,a3])⟩
   ·exact fin ev h
end
section
open Go.Conc Go.RowKit
theorem Qq:prog.underlying 3=some (.int .i64):=by kernel_rfl
theorem yz(w:World)(ty:TypeId){E off cap i n:Nat}{cur:Array Value}{xs:List Value}(hE:w.heap[E]? =some (.cells cur 128 (0,0)))(PJ:xs.length=2*i)(pF:∀(j:Nat)(u:Value),xs[j]? =some u→cur[off+j]? =some u)(sw:0<n)(hg:cap<i+n)(hq:i+n<1000):
 ∃c' rest,(Builtin.append_ #[100,3] ty #[.slice (some ⟨E,off,none⟩) i cap,.int .i64 n]).run prog w=.ok (.slice (some ⟨w.heap.size,0,none⟩) (i+n) c') (w.drew.alloc (.cells (xs.toArray++rest) 128))∧i+n≤c'∧rest.size=2*(c'-i)∧
  ∀ev∈(Builtin.append_ #[100,3] ty #[.slice (some ⟨E,off,none⟩) i cap,.int .i64 n]).events prog w #[],(∃ad,ev.loc=.cell ad∧ev.write=false∧ad.block=E)∨ev=noRoomEvent:=by
 obtain⟨inf,z,i1,i2,i3,i4,i5⟩:=kU;have Sa:xs.length=i*inf.size:=by rw[i3];omega
 have holds:=pR (w:=w.drew) hE pF;have AV:=run_firstCells_some (P:=prog) w.drew inf.size i ⟨E,off,none⟩ i cap xs Sa holds;have AW:=growslice_fits (need:=i+n) (old:=cap) (bytes:=inf.bytes) (by omega) (by rw[i4];omega);have hr:=Lib.run_append_grow_zeros w 100 3 ty 128 inf z .i64 .i64 c9 Qq i1 i2 (some ⟨E,off,none⟩) i cap xs AV n sw (by rw[i3];decide) hg (by omega) (by rw[i4];omega) AW;have PN:=grownCap_ge w (i+n) cap 128;refine⟨grownCap w (i+n) cap 128,Builtin.zeroCells z.cells n++Builtin.zeroCells z.cells (grownCap w (i+n) cap 128-(i+n)),by rw[hr,Array.append_assoc],PN,by simp only[Array.size_append,size_zeroCells,i5];omega,fun ev dS=>?_⟩;have hw:IntKind.i64.wrap (n:Int)=n:=by rw[IntKind.wrap_i64];omega
 have hn:¬(i+n≤cap):=by omega
 have Ox:¬(9223372036854775807<((i:Int)+(n:Int))):=by omega
 have xp:¬(281474976710656<Builtin.nextslicecap (i+n) cap*inf.bytes):=by omega
 have XK:¬(281474976710656<(n:Int)*(inf.bytes:Int)):=by rw[i4];omega
 have WD:¬((n:Int)<0):=by omega
 have UF:¬(n*inf.size=0):=by rw[i3];omega
 simp[Builtin.append_,run_underlying c9,run_underlying Qq,sizeOf,typeInfo,zeroValue,i1,i2,asInt,asIntOf,hw,hn,WD,UF,Ox,xp,XK,Question.forced,AV,newRow] at dS
 rcases events_firstCells_in (P:=prog) (·=E) inf.size i _ w.drew _ (fun a l c e=>by
  cases e
  exact⟨rfl,fun j hj=>isSome_of_list (w:=w.drew) holds (by rw[Sa];exact hj)⟩) ev dS with h|⟨ad,a1,a2,a3⟩
 ·exact .inr (wC _ _ ev h)
 ·exact .inl ⟨ad,a1,a2,a3⟩
theorem mF{Ok:Addr→Bool→Prop}{w w':World}{es:Array Event}{g:Option Nat}(dS:∀e∈es,Fg Ok w' e)(hg:w.grownBy w' g)(kD:∀b,g=some b→∃cur t f,w.heap[b]? =some (.cells cur t f))(N5:∀(ad:Addr)(wr:Bool),some ad.block=g→Ok ad wr):DX Ok w w' es:=by
 refine⟨dS,hg.size,fun c ob EW hn=>?_,fun ad qy aT=>?_,fun kk cB RY=>hg.block kk cB (fun z=>RY ⟨kk,0,none⟩ rfl (N5 _ _ z)),hg.os,hg.tape,hg.output⟩
 ·have aN:some c≠g:=fun z=>by
   obtain⟨cur,t,f,q2⟩:=kD c z.symm;rw[q2] at EW;exact hn _ _ _ (Option.some.inj EW).symm
  exact(hg.block c (Array.getElem?_eq_some_iff.1 EW).1 aN).trans EW
 ·have aN:some ad.block≠g:=fun z=>qy (N5 _ _ z)
  have:=hg.block _ aT aN;exact⟨World.cell?_of_block this,World.frozen?_of_block this⟩
section
variable{main:Bool}{Ok:Addr→Bool→Prop}{Ψ:Goroutine→World→Prop}{b:Frame}{a:Act}{k:List Item}{cs:List Frame}{w:World}{ops:Array Oper}{i:Nat}{rest:List Nat}{o:Oper}
theorem aC.KS(F:aC prog main (DX Ok) Ψ)(ho:ops[i]? =some o)(hw:Region.wanted o (yielded ops a.tmps)=true)(hk:b.kind≠.early)(s x:Operand)(aQ:o.op=.call {callee:=.builtin .append,args:=#[s,x],argTypes:=#[100,100]}){N nb:Nat}{v f:Value}{t:Int}{es:List (Int×Value)}(hq:es.length<1000)(hN:N≤w.heap.size)(hs:a.eval s=v)(hx:a.eval x=.slice (some ⟨nb,0,none⟩) 1 1)(he:fU N w v es)(h0:w.cell? ⟨nb,0,none⟩=some (.int .i64 t))(h1:w.cell? ⟨nb,1,none⟩=some f)(hf:f.oneCell'=true)(ko:∀(ad:Addr)(wr:Bool),some ad.block=v.ownBlock→Ok ad wr)(rG:∀ad:Addr,ad.block=nb→Ok ad false)(h:∀v' w',fU N w' v' (es++[(t,f)])→w.grownBy w' v.ownBlock→(v'.ownBlock=v.ownBlock∨v'.ownBlock=some w.heap.size)→Ψ (G (b.at (a.put o.dst v') (.inRegion ops rest::k)) cs) w'):
 Ψ (G (b.at a (.inRegion ops (i::rest)::k)) cs) w:=by
 refine F.Pw ho hw hk fun d K hK=>?_
 obtain⟨v',w',hr,eF,hg,hb,dS⟩:=yA (w.at d) o.type (N:=N) hN (v:=v) hq he h0 h1 hf;refine uponK_append s x 100 aQ hs hx hr (hK _ w' ⟨mF (fun ev hv=>?_) hg (fun g Kc=>by obtain⟨_,cur,q2⟩:=fU.lt he Kc;exact⟨cur,_,_,q2⟩) ko,h v' w' eF ⟨hg.os,hg.tape,hg.output,hg.size,hg.block⟩ hb⟩);have hm:=mem_listed hv;rw[events_append_op s x 100 aQ hs hx] at hm;rcases dS ev hm with ⟨ad,e1,⟨e2,e3⟩|e2⟩|e1
 ·exact .inl ⟨ad,e1,rfl,by rw[e2];exact rG ad e3,by rw[e3];exact Nat.lt_of_lt_of_le (aq (w:=w) h0) hg.size⟩
 ·obtain⟨q1,cur,q2⟩:=fU.lt he e2.symm
  exact .inl ⟨ad,e1,rfl,ko _ _ e2,Nat.lt_of_lt_of_le (Array.getElem?_eq_some_iff.1 q2).1 hg.size⟩
 ·exact .inr e1
theorem aC.KR(F:aC prog main (DX Ok) Ψ)(ho:ops[i]? =some o)(hw:Region.wanted o (yielded ops a.tmps)=true)(hk:b.kind≠.early)(s x:Operand)(aQ:o.op=.call {callee:=.builtin .append,args:=#[s,x],argTypes:=#[100,3]}){E off cap p n:Nat}{cur:Array Value}{xs:List Value}(hs:a.eval s=.slice (some ⟨E,off,none⟩) p cap)(hx:a.eval x=.int .i64 n)(hE:w.heap[E]? =some (.cells cur 128 (0,0)))(PJ:xs.length=2*p)(pF:∀(j:Nat)(u:Value),xs[j]? =some u→cur[off+j]? =some u)(sw:0<n)(hg:cap<p+n)(hq:p+n<1000)(qj:∀ad:Addr,ad.block=E→Ok ad false)(h:∀c' rs w1,p+n≤c'→rs.size=2*(c'-p)→w.alloc (.cells (xs.toArray++rs) 128)=w1→Ψ (G (b.at (a.put o.dst (.slice (some ⟨w.heap.size,0,none⟩) (p+n) c')) (.inRegion ops rest::k)) cs) w1):
 Ψ (G (b.at a (.inRegion ops (i::rest)::k)) cs) w:=by
 refine F.Pw ho hw hk fun d K hK=>?_
 obtain⟨c',rs,hr,hc,kY,dS⟩:=yz (w.at d) o.type (n:=n) hE PJ pF sw hg hq;have E4:(w.at d).grownBy ((w.at d).drew.alloc (.cells (xs.toArray++rs) 128)) none:=⟨rfl,rfl,rfl,by simp,fun k hk _=>Below.heap_alloc (w.at d).drew _ k hk⟩
 have fM:uponK o a K ((execOp a.eval o).run prog (w.at d)):=by
  unfold execOp;simp only[aQ,resolve,invoke,builtin,Sem.run_bind,Sem.run_pure,Result.andThen_ok,List.map_toArray,List.map_cons,List.map_nil,hs,hx,hr];refine hK _ _ ⟨mF (g:=none) (fun ev hv=>?_) E4 (fun g Kc=>by cases Kc) (fun ad wr z=>by cases z),?_⟩
  ·have hm:=mem_listed hv
   have he:(execOp a.eval o).events prog (w.at d) #[]=(Builtin.append_ #[100,3] o.type #[.slice (some ⟨E,off,none⟩) p cap,.int .i64 n]).events prog (w.at d) #[]:=by
    unfold execOp;simp only[aQ,resolve,invoke,builtin,Sem.events_bind,Sem.run_pure,Sem.events_pure,Result.evThen_ok,List.map_toArray,List.map_cons,List.map_nil,hs,hx];cases (Builtin.append_ #[100,3] o.type #[.slice (some ⟨E,off,none⟩) p cap,.int .i64 n]).run prog (w.at d)<;>rfl
   rw[he] at hm;rcases dS ev hm with ⟨ad,e1,e2,e3⟩|e1
   ·exact .inl ⟨ad,e1,rfl,by rw[e2];exact qj ad e3,by rw[e3];exact Nat.lt_of_lt_of_le (Array.getElem?_eq_some_iff.1 hE).1 E4.size⟩
   ·exact .inr e1
  ·exact F.at' _ (w.alloc (.cells (xs.toArray++rs) 128)) (d+1) (h c' rs _ hc kY rfl)
 exact fM
theorem aC.CP(F:aC prog main (DX Ok) Ψ)(ho:ops[i]? =some o)(hw:Region.wanted o (yielded ops a.tmps)=true)(hk:b.kind≠.early)(s x:Operand)(aQ:o.op=.call {callee:=.builtin .copy,args:=#[s,x],argTypes:=#[100,100]}){E p dl dc sl sc n:Nat}{bb:Addr}{cur:Array Value}{vs:List Value}(hs:a.eval s=.slice (some ⟨E,p,none⟩) dl dc)(hx:a.eval x=.slice (some bb) sl sc)(hE:w.heap[E]? =some (.cells cur 128 (0,0)))(hn:n=Nat.min sl dl)(hl:vs.length=2*n)(AW:p+vs.length≤cur.size)(zJ:∀j u,vs[j]? =some u→w.cell? (bb.add j)=some u)(h1:∀u∈vs,u.oneCell'=true)(qj:∀(ad:Addr)(wr:Bool),ad.block=E→Ok ad wr)(Gq:∀ad:Addr,ad.block=bb.block→Ok ad false)(Iz:bb.block<w.heap.size)(h:∀w1,w.setRow E (cur.toList.take p++vs++cur.toList.drop (p+vs.length)).toArray=w1→Ψ (G (b.at (a.put o.dst (.int .i64 n)) (.inRegion ops rest::k)) cs) w1):
 Ψ (G (b.at a (.inRegion ops (i::rest)::k)) cs) w:=by
 refine F.op ho hw hk fun d K hK=>?_
 obtain⟨hr,dS⟩:=D3 (w.at d) o.type (dc:=dc) (sc:=sc) hE hn hl AW zJ h1;have E4:(w.at d).grownBy ((w.at d).setRow E (cur.toList.take p++vs++cur.toList.drop (p+vs.length)).toArray) (some E):=⟨rfl,rfl,rfl,by simp,fun k _ hk=>setRow_other _ E k _ (fun e=>hk (by rw[e]))⟩;unfold execOp;simp only[aQ,resolve,invoke,builtin,Sem.run_bind,Sem.run_pure,Result.andThen_ok,List.map_toArray,List.map_cons,List.map_nil,hs,hx,hr];refine hK _ (w.setRow E (cur.toList.take p++vs++cur.toList.drop (p+vs.length)).toArray) ⟨mF (g:=some E) (fun ev hv=>?_) E4 (fun g Kc=>by cases Kc;exact⟨_,_,_,hE⟩) (fun ad wr z=>qj ad wr (Option.some.inj z)),h _ rfl⟩;have hm:=mem_listed hv
 have he:(execOp a.eval o).events prog (w.at d) #[]=(Builtin.copy_ #[100,100] o.type #[.slice (some ⟨E,p,none⟩) dl dc,.slice (some bb) sl sc]).events prog (w.at d) #[]:=by
  unfold execOp;simp only[aQ,resolve,invoke,builtin,Sem.events_bind,Sem.run_pure,Sem.events_pure,Result.evThen_ok,List.map_toArray,List.map_cons,List.map_nil,hs,hx];cases (Builtin.copy_ #[100,100] o.type #[.slice (some ⟨E,p,none⟩) dl dc,.slice (some bb) sl sc]).run prog (w.at d)<;>rfl
 rw[he] at hm;obtain⟨ad,e1,⟨e2,e3⟩|e2⟩:=dS ev hm
 ·exact .inl ⟨ad,e1,rfl,by rw[e2];exact Gq ad e3,by rw[e3];exact Nat.lt_of_lt_of_le Iz E4.size⟩
 ·exact .inl ⟨ad,e1,rfl,qj _ _ e2,by rw[e2];exact Nat.lt_of_lt_of_le (Array.getElem?_eq_some_iff.1 hE).1 E4.size⟩
theorem uj(ho:ops[i]? =some o)(hw:Region.wanted o (yielded ops a.tmps)=true)(hk:b.kind≠.early)(s x:Operand){ats:Array TypeId}(aQ:o.op=.call {callee:=.value (.func 86),args:=#[s,x],argTypes:=ats}){nb E p la ca lb cb:Nat}{c1 c2:Array Value}{t1 t2:TypeId}(hs:a.eval s=.slice (some ⟨nb,0,none⟩) la ca)(hx:a.eval x=.slice (some ⟨E,p,none⟩) lb cb)(h1:w.heap[nb]? =some (.cells c1 t1 (0,0)))(h2:w.heap[E]? =some (.cells c2 t2 (0,0)))(aN:nb≠E)(h0:c2.size≠0):
 stepG prog main (G (b.at a (.inRegion ops (i::rest)::k)) cs) w=.go (G (b.at (a.put o.dst (.bool false)) (.inRegion ops rest::k)) cs) w #[]:=by
 have cU:∀w,(Go.sizeOf 128).run prog w=.ok 2 w:=fun w=>by
  obtain⟨inf,z,i1,i2,i3,i4,i5⟩:=kU;simp[sizeOf,typeInfo,i1,i3]
 have Ei:∀(k:Nat),w.frozen? ⟨nb,k,none⟩=false:=fun k=>by simp[World.frozen?,h1]
 have GX:w.shape? nb=some (t1,c1.size):=by simp[World.shape?,h1]
 have pY:w.shape? E=some (t2,c2.size):=by simp[World.shape?,h2]
 have hr:=Lib.run_overlaps_apart (P:=prog) w 100 4 128 c9 2 cU ⟨nb,0,none⟩ ⟨E,p,none⟩ la ca lb cb aN t1 t2 c1.size c2.size GX pY h0 (Ei 0) (Ei _);refine stepG_entry (e:=Extern.SlicesOverlaps.overlaps #[100,100] #[4]) ho hw hk aQ func86 (by kernel_rfl) (by kernel_rfl) (by kernel_rfl) (by kernel_rfl) (v:=.bool false) (w':=w) (evs:=#[]) (by rw[show(#[s,x]:Array Operand).map a.eval=#[a.eval s,a.eval x] from by simp,hs,hx];exact hr) ?_ (by simp);rw[show(#[s,x]:Array Operand).map a.eval=#[a.eval s,a.eval x] from by simp,hs,hx];have gS:(nb !=E)=true:=by simpa using aN
 have WH:(nb==E)=false:=by simpa using aN
 obtain⟨m,hm⟩:∃m,c2.size=m+1:=⟨c2.size-1,by omega⟩;rw[hm] at pY;have jo:=Ei 0;have hfe:=Ei c1.size;obtain⟨inf,z,i1,i2,i3,i4,i5⟩:=kU;unfold Extern.SlicesOverlaps.overlaps
 delta Extern.SlicesOverlaps.overlaps.match_4
 dsimp -zeta only[Array.casesOn,Array.size,List.length,Array.getLit]
 have Ec:¬nb=E:=aN;have hfE:∀(k:Nat),w.frozen? ⟨E,k,none⟩=false:=fun k=>by simp[World.frozen?,h2]
 simp[run_underlying c9,sizeOf,typeInfo,i1,i3,gS,WH,Ec,noView,viewAt,mayBeOne,stringish,GX,pY,jo,hfe,hfE,Result.evThen]
theorem aC.apart(F:aC prog main (DX Ok) Ψ)(ho:ops[i]? =some o)(hw:Region.wanted o (yielded ops a.tmps)=true)(hk:b.kind≠.early)(s x:Operand){ats:Array TypeId}(aQ:o.op=.call {callee:=.value (.func 86),args:=#[s,x],argTypes:=ats}){nb E p la ca lb cb:Nat}{c1 c2:Array Value}{t1 t2:TypeId}(hs:a.eval s=.slice (some ⟨nb,0,none⟩) la ca)(hx:a.eval x=.slice (some ⟨E,p,none⟩) lb cb)(h1:w.heap[nb]? =some (.cells c1 t1 (0,0)))(h2:w.heap[E]? =some (.cells c2 t2 (0,0)))(aN:nb≠E)(h0:c2.size≠0)(h:Ψ (G (b.at (a.put o.dst (.bool false)) (.inRegion ops rest::k)) cs) w):Ψ (G (b.at a (.inRegion ops (i::rest)::k)) cs) w:=by
 refine F.step _ _ rfl fun d=>⟨_,w.at d,#[],uj ho hw hk s x aQ hs hx h1 h2 aN h0,F.idle _ _,F.at' _ _ _ h,fun z v _ _=>?_⟩
 have vu:(lI z v E c2).size=c2.size:=by unfold lI;split<;>(try split)<;>simp
 exact uj ho hw hk s x aQ hs hx (wB (w:=w.at d) z v h1) (wB (w:=w.at d) z v h2) aN (by rw[vu];exact h0)
end
end
end Go.Proofs.YtobagnjnbmgidaaGreatDoor
