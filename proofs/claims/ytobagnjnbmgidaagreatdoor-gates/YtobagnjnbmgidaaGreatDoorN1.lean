import Derived.Test.YtobagnjnbmgidaaGreatDoorX12
import Derived.Lib.Overlaps
import Derived.Lib.AppendZerosOnto
set_option linter.all false
set_option maxRecDepth 100000
namespace Go.Proofs.YtobagnjnbmgidaaGreatDoor
open Tryz Go.Conc Go.RowKit
variable{ats:Array TypeId}{t:Int}{E N ca cap dc la lb n nb off p sc sl:Nat}{w':aj}{f v:ay}{es:jg}{c2 cur:fW}{xs:iG}
variable{main:Bool}{Ok:dw}{Ψ:gi}{b:aE}{a:Act}{k:eF}{cs:cW}{w:aj}{q:b9}{i:Nat}{rest:aP}{o:Oper}
def flat:List (Int×Value)->List Value
 |[]=>[]
 |e::es=>.int .i64 e.1::e.2::flat es
theorem gV:∀es:List (Int×Value),(flat es).length=2*es.length
 |[]=>rfl
 |e::es=>by simp[flat,gV es];omega
theorem lZ:∀a b:List (Int×Value),flat (a++b)=flat a++flat b
 |[],_=>rfl
 |e::es,b=>by simp[flat,lZ es b]
theorem yJ:∀es:List (Int×Value),(∀e∈es,e.2.oneCell'=true)->∀u∈flat es,u.oneCell'=true
 |[],_,u,c=>by cases c
 |e::es,h,u,c=>by
  simp only[flat,ak]at c;rcases c with rfl|rfl|c
  .rfl
  .exact h e (by simp)
  .exact yJ es (λx d=>h x (aO _ d)) u c
theorem uX:∀(es:jg)(i:Nat),flat (es.take i)=(flat es).take (2*i)
 |[],i=>by simp[flat]
 |e::es,0=>by simp[flat]
 |e::es,i+1=>by rw[show 2*(i+1)=2*i+1+1 by omega];simp[flat,uX es i]
theorem uY:∀(es:jg)(i:Nat),flat (es.drop i)=(flat es).drop (2*i)
 |[],i=>by simp[flat]
 |e::es,0=>by simp[flat]
 |e::es,i+1=>by rw[show 2*(i+1)=2*i+1+1 by omega];simp[flat,uY es i]
def eX(N:Nat)(w:aj)(v:ay)(es:jg):Prop:=
 (∀e∈es,e.2.oneCell'=true)/\((v=.slice none 0 0/\es=[])\/
   ∃E off cap cur,v=.slice (some ⟨E,off,none⟩) es.length cap/\es.length<=cap/\N<=E/\w.heap[E]? =some (.cells cur 128 (0,0))/\off+2*cap<=cur.size/\∀(j:Nat)(u:ay),(flat es)[j]? =some u->cur[off+j]? =some u)
theorem eX.lt(h:eX N w v es){g:Nat}(c:v.ownBlock=some g):N<=g/\∃cur,w.heap[g]? =some (.cells cur 128 (0,0)):=by
 rcases h.2 with ⟨rfl,_⟩|⟨E,off,cap,cur,rfl,_,e,d,_⟩
 .cases c
 .simp[Value.ownBlock]at c
  subst c;exact⟨e,cur,d⟩
theorem eX.form(h:eX N w v es):∃base cap,v=.slice base es.length cap/\es.length<=cap/\(base=none->cap=0)/\∀b,base=some b->b.spot=none:=by
 rcases h.2 with ⟨rfl,rfl⟩|⟨E,off,cap,cur,rfl,hc,_⟩
 .exact⟨none,0,rfl,az _,λ_=>rfl,λb c=>by cases c⟩
 .exact⟨some ⟨E,off,none⟩,cap,rfl,hc,λh=>(by cases h),λb c=>by cases c;rfl⟩
theorem Kp.bQ{L:aP}{C:List Addr}(h:Kp L w w' C)(r:eX N w v es)(d:∀g∈bU v,g∉L/\∀x∈C,x.block≠g):eX N w' v es:=by
 refine⟨r.1,r.2.imp id fun⟨E,off,cap,cur,c,m,l,j,e⟩=>⟨E,off,cap,cur,c,m,l,?_,e⟩⟩;have:=d E (bq.2 (by rw[c];rfl));exact h.blk E _ _ _ this.1 this.2 j
theorem eu(cur:fW)(p:Nat)(vs:iG)(g:p+vs.length<=cur.size)(k:Nat):(cur.toList.take p++vs++cur.toList.drop (p+vs.length)).toArray[k]? =if k<p then cur[k]? else if k<p+vs.length then vs[k-p]? else cur[k]? :=by
 have e:(cur.toList.take p).length=p:=by simp;omega
 rw[Da,fM]
 by_cases c:k<p
 .rw[ah c,oZ (by omega),EN c,EG]
 .rw[af c,rH (by omega),e]
  by_cases d:k<p+vs.length
  .rw[ah d,oZ (by omega)]
  .rw[af d,rH (by omega),EE,EG]
   congr 1;omega
theorem qa(cur:fW)(p:Nat)(vs:iG)(c:p+vs.length<=cur.size):(cur.toList.take p++vs++cur.toList.drop (p+vs.length)).toArray.size=cur.size:=by
 simp only[vn,qt,rJ,Bj,xp];omega
theorem oJ{k:Nat}{t:TypeId}{c:Nat×Nat}(h:w.heap[E]? =some (.cells cur t c)):w.cell? ⟨E,k,none⟩=cur[k]? :=by simp[World.cell?,h]
theorem Dt(w:aj)(ty:TypeId){o dl:Nat}{b:Addr}{cs:iG}(A:w.heap[E]? =some (.cells cur 128 (0,0)))(D:n=Nat.min sl dl)(hl:cs.length=2*n)(x:o+cs.length<=cur.size)(r:∀j u,cs[j]? =some u->w.cell? (b.add j)=some u)(B:∀u∈cs,u.oneCell'=true):
 (Builtin.copy_ #[100,100] ty #[.slice (some ⟨E,o,none⟩) dl dc,.slice (some b) sl sc]).run prog w=.ok (goInt n) (w.setRow E (cur.toList.take o++cs++cur.toList.drop (o+cs.length)).toArray)/\
   ∀ev∈(Builtin.copy_ #[100,100] ty #[.slice (some ⟨E,o,none⟩) dl dc,.slice (some b) sl sc]).events prog w #[],∃ad,ev.loc=.cell ad/\((ev.write=false/\ad.block=b.block)\/ad.block=E):=by
 obtain⟨inf,z,s,M,C,L,K⟩:=kH;have g:cs.length=n*inf.size:=by rw[C];omega
 have y:=run_firstCells_some (P:=prog) w inf.size n b sl sc cs g r;have d:=run_storeCells_at (P:=prog) E o 128 cs 0 cur w A (by omega) B;simp only[iO]at d;subst D
 constructor
 .simp[Builtin.copy_,run_underlying cQ,sizeOf,typeInfo,s,Builtin.lenOf,y,d]
 .intro ev m
  simp[Builtin.copy_,run_underlying cQ,sizeOf,typeInfo,s,Builtin.lenOf,y]at m;rcases events_storeCells_at (P:=prog) E o 128 cs 0 cur w _ A (by omega) B ev m with h|⟨ad,G,F⟩
  .rcases events_firstCells_in (P:=prog) (·=b.block) inf.size (Nat.min sl dl) _ w _ (λa l c e=>by
    cases e
    exact⟨rfl,λj hj=>isSome_of_list r (by rw[g];exact hj)⟩) ev h with h|⟨ad,J,I,H⟩
   .simp at h
   .exact⟨ad,J,.inl ⟨I,H⟩⟩
  .exact⟨ad,G,.inr F⟩
theorem vN(x:Nat)(w':aj):∀ev∈(askRoom x).events prog w' #[],ev=noRoomEvent:=λev c=>by
 rcases Conc.events_askRoom _ _ _ ev c with h|⟨m,h,d⟩
 .simp at h
 .rw[h,show m=.noRoom from d];rfl
theorem oK(h:w.heap[E]? =some (.cells cur 128 (0,0)))(c:∀(j:Nat)(u:ay),xs[j]? =some u->cur[off+j]? =some u):∀j u,xs[j]? =some u->w.cell? ((⟨E,off,none⟩:Addr).add j)=some u:=λj u d=>by
 rw[dJ,oJ h];exact c j u d
theorem xQ(w:aj)(ty:TypeId)(hN:N<=w.heap.size)(hq:es.length<1000)(he:eX N w v es)(h0:w.cell? ⟨nb,0,none⟩=some (.int .i64 t))(h1:w.cell? ⟨nb,1,none⟩=some f)(Y:f.oneCell'=true):
 ∃I w',(Builtin.append_ #[100,100] ty #[v,.slice (some ⟨nb,0,none⟩) 1 1]).run prog w=.ok I w'/\eX N w' I (es++[(t,f)])/\w.grownBy w' v.ownBlock/\(I.ownBlock=v.ownBlock\/I.ownBlock=some w.heap.size)/\
  ∀ev∈(Builtin.append_ #[100,100] ty #[v,.slice (some ⟨nb,0,none⟩) 1 1]).events prog w #[],(∃ad,ev.loc=.cell ad/\((ev.write=false/\ad.block=nb)\/some ad.block=v.ownBlock))\/ev=noRoomEvent:=by
 have C:∀e∈es++[(t,f)],e.2.oneCell'=true:=λe hm=>by
  rcases dZ.1 hm with h|h
  .exact he.1 e h
  .simp at h;subst h;exact Y
 rcases he.2 with ⟨rfl,rfl⟩|⟨E,off,cap,cur,rfl,hle,hE,s,M,J⟩
 .obtain⟨I,w',r1,⟨E,off,cap,cur,rfl,o2,o3,o4,o5,o6⟩,r3,r4,r5⟩:=qd w ty hN (v:=.slice none 0 0) (.inl rfl) h0 h1 Y
  refine⟨_,w',r1,⟨C,.inr ⟨E,off,cap+1,cur,rfl,by simp,o2,o3,o4,λj u d=>?_⟩⟩,r3,r4,r5⟩
  match j,d with
  |0,d=>simp[flat]at d;subst d;exact o5
  |1,d=>simp[flat]at d;subst d;exact o6
  |j+2,d=>simp[flat]at d
 obtain⟨inf,z,R,i2,F,i4,i5⟩:=kH
 have g:∀j u,[.int .i64 t,f][j]? =some u->w.cell? ((⟨nb,0,none⟩:Addr).add j)=some u:=by
  intro j u d;rw[dJ,bD]
  match j,d with
  |0,d=>simp at d;subst d;exact h0
  |1,d=>simp at d;subst d;exact h1
  |j+2,d=>simp at d
 have hl:([.int .i64 t,f]:iG).length=1*inf.size:=by rw[F];rfl
 have H:(flat es).length=es.length*inf.size:=by rw[F,gV];omega
 have D:∀u∈([.int .i64 t,f]:iG),u.oneCell'=true:=by intro u d;simp at d;rcases d with rfl|rfl;rfl;exact Y
 have holds:=oK (w:=w) s J
 have src:∀(w':aj),(∀ad,w'.cell? ad=w.cell? ad)->∀es,∀ev∈(Builtin.firstCells inf.size 1 (.slice (some ⟨nb,0,none⟩) 1 1)).events prog w' es,ev∈es\/ev.readsIn (·=nb):=by
  intro w' S es;refine events_firstCells_in (P:=prog) (·=nb) inf.size 1 _ w' es λa l c e=>?_
  cases e
  exact⟨rfl,λj hj=>by rw[S];exact isSome_of_list g (by rw[hl];exact hj)⟩
 have fin:∀ev:Event,ev.readsIn (·=nb)->(∃ad,ev.loc=.cell ad/\((ev.write=false/\ad.block=nb)\/some ad.block=(Value.slice (some ⟨E,off,none⟩) es.length cap).ownBlock))\/ev=noRoomEvent:=λev ⟨ad,a1,a2,a3⟩=>.inl ⟨ad,a1,.inl ⟨a2,a3⟩⟩
 have y:flat (es++[(t,f)])=flat es++[.int .i64 t,f]:=lZ _ _;have X:=run_firstCells_some (P:=prog) w.drew inf.size 1 ⟨nb,0,none⟩ 1 1 [.int .i64 t,f] hl (by simpa using g);have r:=run_firstCells_some (P:=prog) w inf.size 1 ⟨nb,0,none⟩ 1 1 [.int .i64 t,f] hl (by simpa using g)
 by_cases O:es.length<cap
 .have G:=run_storeCells_at (P:=prog) E (off+es.length*2) 128 [.int .i64 t,f] 0 cur w s (by simp;omega) D
  have T:(Builtin.append_ #[100,100] ty #[.slice (some ⟨E,off,none⟩) es.length cap,.slice (some ⟨nb,0,none⟩) 1 1]).run prog w=.ok (.slice (some ⟨E,off,none⟩) (es.length+1) cap) (w.setRow E (cur.toList.take (off+es.length*2)++[.int .i64 t,f]++cur.toList.drop (off+es.length*2+2)).toArray):=by
   simp only[iO,eG,gM]at G;have B:es.length+1<=cap:=O;simp[Builtin.append_,run_underlying cQ,sizeOf,typeInfo,R,F,Builtin.lenOf,dJ,G,B];rw[F]at r;simp[r,G]
  have m:([.int .i64 t,f]:iG).length=2:=rfl;have hp:off+es.length*2+([.int .i64 t,f]:iG).length<=cur.size:=by rw[m];omega
  refine⟨_,_,T,⟨C,.inr ⟨E,off,cap,_,by simp,by simp;omega,hE,setRow_heap w E cur _ 128 _ s,by have K:=qa cur _ _ hp;rw[m]at K;rw[K];exact M,λj u d=>?_⟩⟩,⟨rfl,rfl,rfl,by simp,λk _ hk=>setRow_other w E k _ (λe=>hk (by simp[Value.ownBlock,e]))⟩,.inl rfl,λev A=>?_⟩
  .have L:=eu cur _ _ hp (off+j)
   rw[m]at L;rw[L];rw[y]at d
   by_cases hj:j<(flat es).length
   .rw[oZ hj]at d
    rw[ah (by rw[gV]at hj;omega)];exact J j u d
   .rw[rH (by omega)]at d
    have U:j-(flat es).length<2:=by
     rcases kR (j-(flat es).length) 2 with x|x
     .exact x
     .rw[EI (by simpa using x)]at d;cases d
    rw[gV]at hj U d;rw[af (by omega),ah (by omega),show off+j-(off+es.length*2)=j-2*es.length by omega];exact d
  .have B:es.length+1<=cap:=O
   rw[F]at r;simp[Builtin.append_,run_underlying cQ,sizeOf,typeInfo,R,F,Builtin.lenOf,r,dJ,B]at A;rcases events_storeCells_at (P:=prog) E (off+es.length*2) 128 [.int .i64 t,f] 0 cur w _ s (by simp;omega) D ev A with h|⟨ad,h2,h3⟩
   .rw[F]at src
    rcases src _ (λ_=>rfl) _ ev h with h|h
    .simp at h
    .exact fin ev h
   .exact .inl ⟨ad,h2,.inr (by simp[Value.ownBlock,h3])⟩
 .have hce:cap=es.length:=by omega
  have T:=run_append_grow (P:=prog) w 100 ty 128 inf z cQ R i2 ⟨E,off,none⟩ es.length cap (flat es) H holds ⟨nb,0,none⟩ 1 1 [.int .i64 t,f] hl g (by omega) (by omega) (growslice_fits (by omega) (by rw[i4];omega));have V:=grownCap_ge w (es.length+1) cap 128;refine⟨_,_,T,⟨C,.inr ⟨w.heap.size,0,grownCap w (es.length+1) cap 128,_,by simp,by simpa using V,hN,nv (w:=w.drew) rfl rfl,?_,λj u d=>?_⟩⟩,⟨rfl,rfl,rfl,by simp,λk hk _=>Below.heap_alloc w.drew _ k hk⟩,.inr rfl,λev A=>?_⟩
  .simp only[zy,vn,qt,eG,gM,size_zeroCells,i5,gV]
   omega
  .rw[y]at d
   have hj:j<(flat es++[.int .i64 t,f]).length:=(nS.1 d).1;rw[bD,tI (by simpa using hj),Da]
   simpa using d
  .have Q:¬(281474976710656<Builtin.nextslicecap (es.length+1) cap*inf.bytes):=by
    have:=growslice_fits (need:=es.length+1) (old:=cap) (bytes:=inf.bytes) (by omega) (by rw[i4];omega);omega
   have W:=run_firstCells_some (P:=prog) w.drew inf.size es.length ⟨E,off,none⟩ es.length cap (flat es) H holds;have B:¬(es.length+1<=cap):=by omega
   have Z:¬((9223372036854775807:Int)<(es.length:Int)+1):=by omega
   simp[Builtin.append_,run_underlying cQ,sizeOf,typeInfo,zeroValue,R,i2,Builtin.lenOf,Q,Question.forced,W,X,newRow,B,Z]at A;rcases src w.drew (λ_=>rfl) _ ev A with h|h
   .rcases events_firstCells_in (P:=prog) (·=E) inf.size es.length _ w.drew _ (λa l c e=>by
     cases e
     exact⟨rfl,λj hj=>isSome_of_list (w:=w.drew) holds (by rw[H];exact hj)⟩) ev h with h|⟨ad,a1,a2,a3⟩
    .exact .inr (vN _ _ ev h)
    .exact .inl ⟨ad,a1,.inr (by simp[Value.ownBlock,a3])⟩
   .exact fin ev h
theorem Q1:prog.underlying 3=some (.int .i64):=by kernel_rfl
theorem xP(w:aj)(ty:TypeId)(T:w.heap[E]? =some (.cells cur 128 (0,0)))(R:xs.length=2*i)(D:∀(j:Nat)(u:ay),xs[j]? =some u->cur[off+j]? =some u)(G:0<n)(S:cap<i+n)(X:i+n<1000):
 ∃I rest,(Builtin.append_ #[100,3] ty #[.slice (some ⟨E,off,none⟩) i cap,.int .i64 n]).run prog w=.ok (.slice (some ⟨w.heap.size,0,none⟩) (i+n) I) (w.drew.alloc (.cells (xs.toArray++rest) 128))/\i+n<=I/\rest.size=2*(I-i)/\
  ∀ev∈(Builtin.append_ #[100,3] ty #[.slice (some ⟨E,off,none⟩) i cap,.int .i64 n]).events prog w #[],(∃ad,ev.loc=.cell ad/\ev.write=false/\ad.block=E)\/ev=noRoomEvent:=by
 obtain⟨inf,z,K,J,C,B,L⟩:=kH;have d:xs.length=i*inf.size:=by rw[C];omega
 have holds:=oK (w:=w.drew) T D;have m:=run_firstCells_some (P:=prog) w.drew inf.size i ⟨E,off,none⟩ i cap xs d holds;have r:=growslice_fits (need:=i+n) (old:=cap) (bytes:=inf.bytes) (by omega) (by rw[B];omega);have O:=Lib.run_append_grow_zeros w 100 3 ty 128 inf z .i64 .i64 cQ Q1 K J (some ⟨E,off,none⟩) i cap xs m n G (by rw[C];decide) S (by omega) (by rw[B];omega) r;have H:=grownCap_ge w (i+n) cap 128;refine⟨grownCap w (i+n) cap 128,Builtin.zeroCells z.cells n++Builtin.zeroCells z.cells (grownCap w (i+n) cap 128-(i+n)),by rw[O,ry],H,by simp only[zy,size_zeroCells,L];omega,λev s=>?_⟩;have M:IntKind.i64.wrap (n:Int)=n:=by rw[IntKind.wrap_i64];omega
 have Q:¬(i+n<=cap):=by omega
 have x:¬(9223372036854775807<((i:Int)+(n:Int))):=by omega
 have A:¬(281474976710656<Builtin.nextslicecap (i+n) cap*inf.bytes):=by omega
 have y:¬(281474976710656<(n:Int)*(inf.bytes:Int)):=by rw[B];omega
 have g:¬((n:Int)<0):=by omega
 have F:¬(n*inf.size=0):=by rw[C];omega
 simp[Builtin.append_,run_underlying cQ,run_underlying Q1,sizeOf,typeInfo,zeroValue,K,J,asInt,asIntOf,M,Q,g,F,x,A,y,Question.forced,m,newRow]at s
 rcases events_firstCells_in (P:=prog) (·=E) inf.size i _ w.drew _ (λa l c e=>by
  cases e
  exact⟨rfl,λj hj=>isSome_of_list (w:=w.drew) holds (by rw[d];exact hj)⟩) ev s with h|⟨ad,W,V,U⟩
 .exact .inr (vN _ _ ev h)
 .exact .inl ⟨ad,W,V,U⟩
theorem jU{es:dL}{g:vm}(x:∀e∈es,Ir Ok w' e)(j:w.grownBy w' g)(l:∀b,g=some b->∃cur t f,w.heap[b]? =some (.cells cur t f))(m:∀(ad:Addr)(wr:Bool),some ad.block=g->Ok ad wr):DX Ok w w' es:=by
 refine⟨x,j.size,λc C d B=>?_,λad y s=>?_,λkk u r=>j.block kk u (λz=>r ⟨kk,0,none⟩ rfl (m _ _ z)),j.os,j.tape,j.output⟩
 .have h:some c≠g:=λz=>by
   obtain⟨cur,t,f,A⟩:=l c z.symm;rw[A]at d;exact B _ _ _ (Option.some.inj d).symm
  exact(j.block c (cH.1 d).1 h).trans d
 .have h:some ad.block≠g:=λz=>y (m _ _ z)
  have:=j.block _ s h;exact⟨World.cell?_of_block this,World.frozen?_of_block this⟩
theorem aC.KH(F:aC prog main (DX Ok) Ψ)(ho:q[i]? =some o)(J:Region.wanted o (yielded q a.tmps)=true)(hk:b.kind≠.early)(s x:Operand)(m:o.op=.call {callee:=.builtin .append,args:=#[s,x],argTypes:=#[100,100]})(O:es.length<1000)(R:N<=w.heap.size)(C:a.eval s=v)(B:a.eval x=.slice (some ⟨nb,0,none⟩) 1 1)(A:eX N w v es)(H:w.cell? ⟨nb,0,none⟩=some (.int .i64 t))(T:w.cell? ⟨nb,1,none⟩=some f)(P:f.oneCell'=true)(c:∀(ad:Addr)(wr:Bool),some ad.block=v.ownBlock->Ok ad wr)(l:∀ad:Addr,ad.block=nb->Ok ad false)(h:∀j w',eX N w' j (es++[(t,f)])->w.grownBy w' v.ownBlock->(j.ownBlock=v.ownBlock\/j.ownBlock=some w.heap.size)->Ψ (G (b.at (a.put o.dst j) (.inRegion q rest::k)) cs) w'):
 Ψ (G (b.at a (.inRegion q (i::rest)::k)) cs) w:=by
 refine F.NO ho J hk λd K S=>?_
 obtain⟨j,w',M,u,e,Q,z⟩:=xQ (w.at d) o.type (N:=N) R (v:=v) O A H T P;refine uponK_append s x 100 m C B M (S _ w' ⟨jU (λev L=>?_) e (λg y=>by obtain⟨_,cur,r⟩:=eX.lt A y;exact⟨cur,_,_,r⟩) c,h j w' u ⟨e.os,e.tape,e.output,e.size,e.block⟩ Q⟩);have D:=mem_listed L;rw[events_append_op s x 100 m C B]at D;rcases z ev D with ⟨ad,e1,⟨e2,I⟩|e2⟩|e1
 .exact .inl ⟨ad,e1,rfl,by rw[e2];exact l ad I,by rw[I];exact c7 (au (w:=w) H) e.size⟩
 .obtain⟨U,cur,r⟩:=eX.lt A e2.symm
  exact .inl ⟨ad,e1,rfl,c _ _ e2,c7 (cH.1 r).1 e.size⟩
 .exact .inr e1
theorem aC.KG(F:aC prog main (DX Ok) Ψ)(ho:q[i]? =some o)(Q:Region.wanted o (yielded q a.tmps)=true)(hk:b.kind≠.early)(s x:Operand)(e:o.op=.call {callee:=.builtin .append,args:=#[s,x],argTypes:=#[100,3]})(L:a.eval s=.slice (some ⟨E,off,none⟩) p cap)(J:a.eval x=.int .i64 n)(O:w.heap[E]? =some (.cells cur 128 (0,0)))(C:xs.length=2*p)(y:∀(j:Nat)(u:ay),xs[j]? =some u->cur[off+j]? =some u)(B:0<n)(U:cap<p+n)(T:p+n<1000)(r:∀ad:Addr,ad.block=E->Ok ad false)(h:∀m rs I,p+n<=m->rs.size=2*(m-p)->w.alloc (.cells (xs.toArray++rs) 128)=I->Ψ (G (b.at (a.put o.dst (.slice (some ⟨w.heap.size,0,none⟩) (p+n) m)) (.inRegion q rest::k)) cs) I):
 Ψ (G (b.at a (.inRegion q (i::rest)::k)) cs) w:=by
 refine F.NO ho Q hk λd K W=>?_
 obtain⟨m,rs,S,hc,A,H⟩:=xP (w.at d) o.type (n:=n) O C y B U T;have l:(w.at d).grownBy ((w.at d).drew.alloc (.cells (xs.toArray++rs) 128)) none:=⟨rfl,rfl,rfl,by simp,λk hk _=>Below.heap_alloc (w.at d).drew _ k hk⟩
 have c:uponK o a K ((execOp a.eval o).run prog (w.at d)):=by
  unfold execOp;simp only[e,resolve,invoke,builtin,A9,Ba,It,xD,nT,uw,L,J,S];refine W _ _ ⟨jU (g:=none) (λev R=>?_) l (λg D=>by cases D) (λad wr z=>by cases z),?_⟩
  .have M:=mem_listed R
   have V:(execOp a.eval o).events prog (w.at d) #[]=(Builtin.append_ #[100,3] o.type #[.slice (some ⟨E,off,none⟩) p cap,.int .i64 n]).events prog (w.at d) #[]:=by
    unfold execOp;simp only[e,resolve,invoke,builtin,xB,Ba,Sem.events_pure,xE,xD,nT,uw,L,J];cases (Builtin.append_ #[100,3] o.type #[.slice (some ⟨E,off,none⟩) p cap,.int .i64 n]).run prog (w.at d)<;>rfl
   rw[V]at M;rcases H ev M with ⟨ad,e1,e2,P⟩|e1
   .exact .inl ⟨ad,e1,rfl,by rw[e2];exact r ad P,by rw[P];exact c7 (cH.1 O).1 l.size⟩
   .exact .inr e1
  .exact F.at' _ (w.alloc (.cells (xs.toArray++rs) 128)) (d+1) (h m rs _ hc A rfl)
 exact c
theorem aC.CC(F:aC prog main (DX Ok) Ψ)(ho:q[i]? =some o)(P:Region.wanted o (yielded q a.tmps)=true)(hk:b.kind≠.early)(s x:Operand)(m:o.op=.call {callee:=.builtin .copy,args:=#[s,x],argTypes:=#[100,100]}){dl:Nat}{bb:Addr}{vs:iG}(L:a.eval s=.slice (some ⟨E,p,none⟩) dl dc)(J:a.eval x=.slice (some bb) sl sc)(H:w.heap[E]? =some (.cells cur 128 (0,0)))(S:n=Nat.min sl dl)(hl:vs.length=2*n)(r:p+vs.length<=cur.size)(C:∀j u,vs[j]? =some u->w.cell? (bb.add j)=some u)(V:∀u∈vs,u.oneCell'=true)(l:∀(ad:Addr)(wr:Bool),ad.block=E->Ok ad wr)(y:∀ad:Addr,ad.block=bb.block->Ok ad false)(D:bb.block<w.heap.size)(h:∀I,w.setRow E (cur.toList.take p++vs++cur.toList.drop (p+vs.length)).toArray=I->Ψ (G (b.at (a.put o.dst (.int .i64 n)) (.inRegion q rest::k)) cs) I):
 Ψ (G (b.at a (.inRegion q (i::rest)::k)) cs) w:=by
 refine F.op ho P hk λd K U=>?_
 obtain⟨R,B⟩:=Dt (w.at d) o.type (dc:=dc) (sc:=sc) H S hl r C V;have c:(w.at d).grownBy ((w.at d).setRow E (cur.toList.take p++vs++cur.toList.drop (p+vs.length)).toArray) (some E):=⟨rfl,rfl,rfl,by simp,λk _ hk=>setRow_other _ E k _ (λe=>hk (by rw[e]))⟩;unfold execOp;simp only[m,resolve,invoke,builtin,A9,Ba,It,xD,nT,uw,L,J,R];refine U _ (w.setRow E (cur.toList.take p++vs++cur.toList.drop (p+vs.length)).toArray) ⟨jU (g:=some E) (λev Q=>?_) c (λg A=>by cases A;exact⟨_,_,_,H⟩) (λad wr z=>l ad wr (Option.some.inj z)),h _ rfl⟩;have M:=mem_listed Q
 have T:(execOp a.eval o).events prog (w.at d) #[]=(Builtin.copy_ #[100,100] o.type #[.slice (some ⟨E,p,none⟩) dl dc,.slice (some bb) sl sc]).events prog (w.at d) #[]:=by
  unfold execOp;simp only[m,resolve,invoke,builtin,xB,Ba,Sem.events_pure,xE,xD,nT,uw,L,J];cases (Builtin.copy_ #[100,100] o.type #[.slice (some ⟨E,p,none⟩) dl dc,.slice (some bb) sl sc]).run prog (w.at d)<;>rfl
 rw[T]at M;obtain⟨ad,e1,⟨e2,O⟩|e2⟩:=B ev M
 .exact .inl ⟨ad,e1,rfl,by rw[e2];exact y ad O,by rw[O];exact c7 D c.size⟩
 .exact .inl ⟨ad,e1,rfl,l _ _ e2,by rw[e2];exact c7 (cH.1 H).1 c.size⟩
theorem sU(ho:q[i]? =some o)(U:Region.wanted o (yielded q a.tmps)=true)(hk:b.kind≠.early)(s x:Operand)(D:o.op=.call {callee:=.value (.func 86),args:=#[s,x],argTypes:=ats}){Q:Nat}{r:fW}{y u:TypeId}(L:a.eval s=.slice (some ⟨nb,0,none⟩) la ca)(K:a.eval x=.slice (some ⟨E,p,none⟩) lb Q)(O:w.heap[nb]? =some (.cells r y (0,0)))(M:w.heap[E]? =some (.cells c2 u (0,0)))(c:nb≠E)(X:c2.size≠0):
 stepG prog main (G (b.at a (.inRegion q (i::rest)::k)) cs) w=.go (G (b.at (a.put o.dst (.bool false)) (.inRegion q rest::k)) cs) w #[]:=by
 have C:∀w,(Go.sizeOf 128).run prog w=.ok 2 w:=λw=>by
  obtain⟨inf,z,B,T,A,S,R⟩:=kH;simp[sizeOf,typeInfo,B,A]
 have d:∀(k:Nat),w.frozen? ⟨nb,k,none⟩=false:=λk=>by simp[World.frozen?,O]
 have h:w.shape? nb=some (y,r.size):=by simp[World.shape?,O]
 have g:w.shape? E=some (u,c2.size):=by simp[World.shape?,M]
 have V:=Lib.run_overlaps_apart (P:=prog) w 100 4 128 cQ 2 C ⟨nb,0,none⟩ ⟨E,p,none⟩ la ca lb Q c y u r.size c2.size h g X (d 0) (d _);refine stepG_entry (e:=Extern.SlicesOverlaps.overlaps #[100,100] #[4]) ho U hk D func86 (by kernel_rfl) (by kernel_rfl) (by kernel_rfl) (by kernel_rfl) (v:=.bool false) (w':=w) (evs:=#[]) (by rw[show(#[s,x]:Array Operand).map a.eval=#[a.eval s,a.eval x]from by simp,L,K];exact V) ?_ (by simp);rw[show(#[s,x]:Array Operand).map a.eval=#[a.eval s,a.eval x]from by simp,L,K];have F:(nb !=E)=true:=by simpa using c
 have l:(nb==E)=false:=by simpa using c
 obtain⟨m,W⟩:∃m,c2.size=m+1:=⟨c2.size-1,by omega⟩;rw[W]at g;have J:=d 0;have H:=d r.size;obtain⟨inf,z,B,T,A,S,R⟩:=kH;unfold Extern.SlicesOverlaps.overlaps
 delta Extern.SlicesOverlaps.overlaps.match_4
 dsimp -zeta only[Array.casesOn,Array.size,List.length,Array.getLit]
 have j:¬nb=E:=c;have I:∀(k:Nat),w.frozen? ⟨E,k,none⟩=false:=λk=>by simp[World.frozen?,M]
 simp[run_underlying cQ,sizeOf,typeInfo,B,A,F,l,j,noView,viewAt,mayBeOne,stringish,h,g,J,H,I,Result.evThen]
theorem aC.apart(F:aC prog main (DX Ok) Ψ)(ho:q[i]? =some o)(l:Region.wanted o (yielded q a.tmps)=true)(hk:b.kind≠.early)(s x:Operand)(e:o.op=.call {callee:=.value (.func 86),args:=#[s,x],argTypes:=ats}){C:Nat}{D:fW}{B A:TypeId}(m:a.eval s=.slice (some ⟨nb,0,none⟩) la ca)(j:a.eval x=.slice (some ⟨E,p,none⟩) lb C)(u:w.heap[nb]? =some (.cells D B (0,0)))(r:w.heap[E]? =some (.cells c2 A (0,0)))(g:nb≠E)(y:c2.size≠0)(h:Ψ (G (b.at (a.put o.dst (.bool false)) (.inRegion q rest::k)) cs) w):Ψ (G (b.at a (.inRegion q (i::rest)::k)) cs) w:=by
 refine F.step _ _ rfl λd=>⟨_,w.at d,#[],sU ho l hk s x e m j u r g y,F.idle _ _,F.at' _ _ _ h,λz v _ _=>?_⟩
 have c:(kZ z v E c2).size=c2.size:=by unfold kZ;split<;>(try split)<;>simp
 exact sU ho l hk s x e m j (vM (w:=w.at d) z v u) (vM (w:=w.at d) z v r) g (by rw[c];exact y)
end Go.Proofs.YtobagnjnbmgidaaGreatDoor
