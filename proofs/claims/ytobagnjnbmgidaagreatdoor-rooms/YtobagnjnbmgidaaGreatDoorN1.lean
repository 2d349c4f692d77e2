import Derived.Test.YtobagnjnbmgidaaGreatDoorX8
import Derived.Lib.Overlaps
import Derived.Lib.AppendZerosOnto
set_option linter.all false
set_option maxRecDepth 100000
namespace Go.Proofs.YtobagnjnbmgidaaGreatDoor
open Tryz Go.Conc Go.RowKit
variable{Q:Array TypeId}{t:Int}{E N T y dc S R n nb off p sc O:Nat}{w':aj}{f v:ay}{es:jl}{M q:gd}{xs:iO}
variable{H:Bool}{J:dh}{I:gi}{b:aC}{a:Act}{k:eC}{D:cO}{w:aj}{B:cm}{i:Nat}{A:aN}{o:Oper}
def flat:List (Int×Value)->List Value
 |[]=>[]
 |e::es=>.int .i64 e.1::e.2::flat es
theorem ia:∀es:List (Int×Value),(flat es).length=2*es.length
 |[]=>rfl
 |e::es=>by simp[flat,ia es];omega
theorem lS:∀a b:List (Int×Value),flat (a++b)=flat a++flat b
 |[],_=>rfl
 |e::es,b=>by simp[flat,lS es b]
theorem yd:∀es:List (Int×Value),(∀e∈es,e.2.oneCell'=true)->∀u∈flat es,u.oneCell'=true
 |[],_,u,a=>by cases a
 |e::es,h,u,a=>by
  simp only[flat,ak]at a;rcases a with rfl|rfl|a
  .rfl
  .simp_all
  .exact yd es (λx b=>h x (aP _ b)) u a
theorem uJ:∀(es:jl)(i:Nat),flat (es.take i)=(flat es).take (2*i)
 |[],i=>by simp[flat]
 |e::es,0=>by simp[flat]
 |e::es,i+1=>by rw[show 2*(i+1)=2*i+1+1 by omega];simp[flat,uJ es i]
theorem uK:∀(es:jl)(i:Nat),flat (es.drop i)=(flat es).drop (2*i)
 |[],i=>by simp[flat]
 |e::es,0=>by simp[flat]
 |e::es,i+1=>by rw[show 2*(i+1)=2*i+1+1 by omega];simp[flat,uK es i]
def fZ(N:Nat)(w:aj)(v:ay)(es:jl):Prop:=
 (∀e∈es,e.2.oneCell'=true)/\((v=.slice none 0 0/\es=[])\/
   ∃E off y q,v=.slice (some ⟨E,off,none⟩) es.length y/\es.length<=y/\N<=E/\w.heap[E]? =some (.cells q 128 (0,0))/\off+2*y<=q.size/\∀(j:Nat)(u:ay),(flat es)[j]? =some u->q[off+j]? =some u)
theorem fZ.lt(h:fZ N w v es){g:Nat}(a:v.ownBlock=some g):N<=g/\∃q,w.heap[g]? =some (.cells q 128 (0,0)):=by
 rcases h.2 with ⟨rfl,_⟩|⟨E,off,y,q,rfl,_,b,b,_⟩
 .cases a
 .simp[Value.ownBlock]at a;simp_all
theorem fZ.form(h:fZ N w v es):∃base y,v=.slice base es.length y/\es.length<=y/\(base=none->y=0)/\∀b,base=some b->b.spot=none:=by
 rcases h.2 with ⟨rfl,rfl⟩|⟨E,off,y,q,rfl,a,_⟩
 .grind
 grind
theorem Kp.bA{L:aN}{C:List Addr}(h:Kp L w w' C)(r:fZ N w v es)(b:∀g∈cw v,g∉L/\∀x∈C,x.block≠g):fZ N w' v es:=by
 refine⟨r.1,r.2.imp id fun⟨E,off,y,q,a,f,e,d,c⟩=>⟨E,off,y,q,a,f,e,?_,c⟩⟩;have:=b E (bS.2 (by rw[a];rfl));exact h.blk E _ _ _ this.1 this.2 d
theorem eE(q:gd)(p:Nat)(a:iO)(b:p+a.length<=q.size)(k:Nat):(q.toList.take p++a++q.toList.drop (p+a.length)).toArray[k]? =if k<p then q[k]? else if k<p+a.length then a[k-p]? else q[k]? :=by
 have a:(q.toList.take p).length=p:=by simp;omega
 grind
theorem pO(q:gd)(p:Nat)(a:iO)(b:p+a.length<=q.size):(q.toList.take p++a++q.toList.drop (p+a.length)).toArray.size=q.size:=by
 grind
theorem oz{k:Nat}{t:TypeId}{a:Nat×Nat}(h:w.heap[E]? =some (.cells q t a)):w.cell? ⟨E,k,none⟩=q[k]? :=by simp[World.cell?,h]
theorem Cu(w:aj)(i:TypeId){o dl:Nat}{b:Addr}{D:iO}(r:w.heap[E]? =some (.cells q 128 (0,0)))(t:n=Nat.min O dl)(k:D.length=2*n)(k:o+D.length<=q.size)(k:∀j u,D[j]? =some u->w.cell? (b.add j)=some u)(s:∀u∈D,u.oneCell'=true):
 (Builtin.copy_ #[100,100] i #[.slice (some ⟨E,o,none⟩) dl dc,.slice (some b) O sc]).run prog w=.ok (goInt n) (w.setRow E (q.toList.take o++D++q.toList.drop (o+D.length)).toArray)/\
   ∀ev∈(Builtin.copy_ #[100,100] i #[.slice (some ⟨E,o,none⟩) dl dc,.slice (some b) O sc]).events prog w #[],∃g,ev.loc=.cell g/\((ev.write=false/\g.block=b.block)\/g.block=E):=by
 obtain⟨inf,z,m,i,i,i,i⟩:=lO;have i:D.length=n*inf.size:=by grind
 have p:=run_firstCells_some (P:=prog) w inf.size n b O sc D i k;have d:=run_storeCells_at (P:=prog) E o 128 D 0 q w r (by omega) s;simp only[jI]at d;subst t;constructor
 .simp[Builtin.copy_,run_underlying dZ,sizeOf,typeInfo,m,Builtin.lenOf,p,d]
 .intro ev f;simp[Builtin.copy_,run_underlying dZ,sizeOf,typeInfo,m,Builtin.lenOf,p]at f;rcases events_storeCells_at (P:=prog) E o 128 D 0 q w _ r (by omega) s ev f with h|⟨g,i,i⟩
  .rcases events_firstCells_in (P:=prog) (·=b.block) inf.size (Nat.min O dl) _ w _ (λa l c e=>by
    simp_all) ev h with h|⟨g,a,a,a⟩
   .simp at h
   simp_all
  simp_all
theorem qC(x:Nat)(w':aj):∀ev∈(askRoom x).events prog w' #[],ev=noRoomEvent:=λev a=>by
 rcases Conc.events_askRoom _ _ _ ev a with h|⟨m,h,a⟩
 .simp at h
 .rw[h,show m=.noRoom from a];rfl
theorem oA(h:w.heap[E]? =some (.cells q 128 (0,0)))(a:∀(j:Nat)(u:ay),xs[j]? =some u->q[off+j]? =some u):∀j u,xs[j]? =some u->w.cell? ((⟨E,off,none⟩:Addr).add j)=some u:=λj u a=>by
 rw[ey,oz h];simp_all
theorem xB(w:aj)(B:TypeId)(T:N<=w.heap.size)(n:es.length<2000000)(H:fZ N w v es)(n:w.cell? ⟨nb,0,none⟩=some (.int .i64 t))(n:w.cell? ⟨nb,1,none⟩=some f)(W:f.oneCell'=true):
 ∃n w',(Builtin.append_ #[100,100] B #[v,.slice (some ⟨nb,0,none⟩) 1 1]).run prog w=.ok n w'/\fZ N w' n (es++[(t,f)])/\w.grownBy w' v.ownBlock/\(n.ownBlock=v.ownBlock\/n.ownBlock=some w.heap.size)/\
  ∀ev∈(Builtin.append_ #[100,100] B #[v,.slice (some ⟨nb,0,none⟩) 1 1]).events prog w #[],(∃d,ev.loc=.cell d/\((ev.write=false/\d.block=nb)\/some d.block=v.ownBlock))\/ev=noRoomEvent:=by
 have o:∀e∈es++[(t,f)],e.2.oneCell'=true:=λe n=>by
  rcases dJ.1 n with h|h
  .exact H.1 e h
  simp_all
 obtain⟨inf,z,A,M,C,L,S⟩:=lO;have m:∀j u,[.int .i64 t,f][j]? =some u->w.cell? ((⟨nb,0,none⟩:Addr).add j)=some u:=by
  intro j u i;rw[ey,bK];grind
 have O:([.int .i64 t,f]:iO).length=1*inf.size:=by rw[C];rfl
 have r:∀u∈([.int .i64 t,f]:iO),u.oneCell'=true:=by intro u i;simp at i;rcases i with rfl|rfl;rfl;exact W
 have src:∀(w':aj),(∀d,w'.cell? d=w.cell? d)->∀es,∀ev∈(Builtin.firstCells inf.size 1 (.slice (some ⟨nb,0,none⟩) 1 1)).events prog w' es,ev∈es\/ev.readsIn (·=nb):=by
  intro w' n es;refine events_firstCells_in (P:=prog) (·=nb) inf.size 1 _ w' es λa l c e=>?_;grind
 have fin:∀ev:Event,ev.readsIn (·=nb)->(∃d,ev.loc=.cell d/\((ev.write=false/\d.block=nb)\/some d.block=v.ownBlock))\/ev=noRoomEvent:=λev ⟨d,R,U,Q⟩=>.inl ⟨d,R,.inl ⟨U,Q⟩⟩;have K:=run_firstCells_some (P:=prog) w.drew inf.size 1 ⟨nb,0,none⟩ 1 1 [.int .i64 t,f] O (by simp_all);have s:=run_firstCells_some (P:=prog) w inf.size 1 ⟨nb,0,none⟩ 1 1 [.int .i64 t,f] O (by omega);rcases H.2 with ⟨rfl,rfl⟩|⟨E,off,y,q,rfl,n,X,g,n,x⟩
 .have G:=run_append_nil (P:=prog) w 100 B 128 inf z dZ A M ⟨nb,0,none⟩ 1 1 [.int .i64 t,f] O m (by omega) (by omega) (by omega);have J:=grownCap_ge w 1 0 128;refine⟨_,_,G,⟨o,.inr ⟨w.heap.size,0,grownCap w 1 0 128,_,rfl,J,T,ny (w:=w.drew) rfl rfl,?_,λj u i=>?_⟩⟩,⟨rfl,rfl,rfl,by simp,λk I _=>Below.heap_alloc w.drew _ k I⟩,.inr rfl,λev b=>?_⟩
  .simp only[yY,wO,gB,iT,size_zeroCells,S];omega
  .have n:([.int .i64 t,f]:iO)[j]? =some u:=i;grind
  .have p:¬(281474976710656<Builtin.nextslicecap 1 0*inf.bytes):=by rw[nextslicecap_zero (by omega),L];omega
   simp[Builtin.append_,run_underlying dZ,sizeOf,typeInfo,zeroValue,A,M,Builtin.lenOf,p,Question.forced,run_firstCells_none,K,newRow]at b;rcases src w.drew (λ_=>rfl) _ ev b with h|h
   .exact .inr (qC _ _ ev (by simpa [Builtin.firstCells]using h))
   simp_all
 have H:(flat es).length=es.length*inf.size:=by rw[C,ia];omega
 have holds:=oA (w:=w) g x;have x:flat (es++[(t,f)])=flat es++[.int .i64 t,f]:=lS _ _;by_cases L:es.length<y
 .have D:=run_storeCells_at (P:=prog) E (off+es.length*2) 128 [.int .i64 t,f] 0 q w g (by simp;omega) r;have G:(Builtin.append_ #[100,100] B #[.slice (some ⟨E,off,none⟩) es.length y,.slice (some ⟨nb,0,none⟩) 1 1]).run prog w=.ok (.slice (some ⟨E,off,none⟩) (es.length+1) y) (w.setRow E (q.toList.take (off+es.length*2)++[.int .i64 t,f]++q.toList.drop (off+es.length*2+2)).toArray):=by
   simp only[jI,gB,iT]at D;have n:es.length+1<=y:=L;simp[Builtin.append_,run_underlying dZ,sizeOf,typeInfo,A,C,Builtin.lenOf,ey,D,n];simp_all
  have v:([.int .i64 t,f]:iO).length=2:=rfl;have N:off+es.length*2+([.int .i64 t,f]:iO).length<=q.size:=by omega
  refine⟨_,_,G,⟨o,.inr ⟨E,off,y,_,by simp,by simp;omega,X,setRow_heap w E q _ 128 _ g,by grind,λj u i=>?_⟩⟩,⟨rfl,rfl,rfl,by simp,λk _ I=>setRow_other w E k _ (λe=>I (by simp[Value.ownBlock,e]))⟩,.inl rfl,λev b=>?_⟩
  .have F:=eE q _ _ N (off+j);rw[v]at F;rw[F];rw[x]at i;by_cases V:j<(flat es).length
   .grind
   .rw[vf (by omega)]at i;have P:j-(flat es).length<2:=by
     grind
    rw[ia]at V P i;rw[af (by omega),ah (by omega),show off+j-(off+es.length*2)=j-2*es.length by omega];exact i
  .have n:es.length+1<=y:=L;rw[C]at s;simp[Builtin.append_,run_underlying dZ,sizeOf,typeInfo,A,C,Builtin.lenOf,s,ey,n]at b;rcases events_storeCells_at (P:=prog) E (off+es.length*2) 128 [.int .i64 t,f] 0 q w _ g (by simp;omega) r ev b with h|⟨d,r,g⟩
   .grind
   .exact .inl ⟨d,r,.inr (by simp[Value.ownBlock,g])⟩
 .have g:y=es.length:=by omega
  have G:=run_append_grow (P:=prog) w 100 B 128 inf z dZ A M ⟨E,off,none⟩ es.length y (flat es) H holds ⟨nb,0,none⟩ 1 1 [.int .i64 t,f] O m (by omega) (by omega) (growslice_fits (by omega) (by grind));have J:=grownCap_ge w (es.length+1) y 128;refine⟨_,_,G,⟨o,.inr ⟨w.heap.size,0,grownCap w (es.length+1) y 128,_,by simp,by simp_all,T,ny (w:=w.drew) rfl rfl,?_,λj u i=>?_⟩⟩,⟨rfl,rfl,rfl,by simp,λk I _=>Below.heap_alloc w.drew _ k I⟩,.inr rfl,λev b=>?_⟩
  .simp only[yY,wO,YA,gB,iT,size_zeroCells,S,ia];omega
  .grind
  .have p:¬(281474976710656<Builtin.nextslicecap (es.length+1) y*inf.bytes):=by
    have:=growslice_fits (need:=es.length+1) (old:=y) (bytes:=inf.bytes) (by omega) (by grind);omega
   have f:=run_firstCells_some (P:=prog) w.drew inf.size es.length ⟨E,off,none⟩ es.length y (flat es) H holds;have n:¬(es.length+1<=y):=by omega
   have g:¬((9223372036854775807:Int)<(es.length:Int)+1):=by omega
   simp[Builtin.append_,run_underlying dZ,sizeOf,typeInfo,zeroValue,A,M,Builtin.lenOf,p,Question.forced,f,K,newRow,n,g]at b;rcases src w.drew (λ_=>rfl) _ ev b with h|h
   .rcases events_firstCells_in (P:=prog) (·=E) inf.size es.length _ w.drew _ (λa l c e=>by
     cases e;simp_all) ev h with h|⟨d,R,U,Q⟩
    .exact .inr (qC _ _ ev h)
    .exact .inl ⟨d,R,.inr (by simp[Value.ownBlock,Q])⟩
   simp_all
theorem Pb:prog.underlying 3=some (.int .i64):=by kernel_rfl
theorem xA(w:aj)(g:TypeId)(s:w.heap[E]? =some (.cells q 128 (0,0)))(b:xs.length=2*i)(d:∀(j:Nat)(u:ay),xs[j]? =some u->q[off+j]? =some u)(j:0<n)(m:y<i+n)(b:i+n<2000000):
 ∃b A,(Builtin.append_ #[100,3] g #[.slice (some ⟨E,off,none⟩) i y,.int .i64 n]).run prog w=.ok (.slice (some ⟨w.heap.size,0,none⟩) (i+n) b) (w.drew.alloc (.cells (xs.toArray++A) 128))/\i+n<=b/\A.size=2*(b-i)/\
  ∀ev∈(Builtin.append_ #[100,3] g #[.slice (some ⟨E,off,none⟩) i y,.int .i64 n]).events prog w #[],(∃o,ev.loc=.cell o/\ev.write=false/\o.block=E)\/ev=noRoomEvent:=by
 obtain⟨inf,z,r,p,b,b,k⟩:=lO;have b:xs.length=i*inf.size:=by grind
 have holds:=oA (w:=w.drew) s d;have d:=run_firstCells_some (P:=prog) w.drew inf.size i ⟨E,off,none⟩ i y xs b holds;have b:=growslice_fits (need:=i+n) (old:=y) (bytes:=inf.bytes) (by omega) (by grind);have s:=Lib.run_append_grow_zeros w 100 3 g 128 inf z .i64 .i64 dZ Pb r p (some ⟨E,off,none⟩) i y xs d n j (by omega) m (by omega) (by grind) b;have b:=grownCap_ge w (i+n) y 128;refine⟨grownCap w (i+n) y 128,Builtin.zeroCells z.cells n++Builtin.zeroCells z.cells (grownCap w (i+n) y 128-(i+n)),by simp_all,b,by simp only[yY,size_zeroCells,k];omega,λev f=>?_⟩;have s:IntKind.i64.wrap (n:Int)=n:=by rw[IntKind.wrap_i64];omega
 have t:¬(i+n<=y):=by omega
 have g:¬(9223372036854775807<((i:Int)+(n:Int))):=by omega
 have k:¬(281474976710656<Builtin.nextslicecap (i+n) y*inf.bytes):=by omega
 have j:¬(281474976710656<(n:Int)*(inf.bytes:Int)):=by grind
 have b:¬((n:Int)<0):=by omega
 have m:¬(n*inf.size=0):=by grind
 simp[Builtin.append_,run_underlying dZ,run_underlying Pb,sizeOf,typeInfo,zeroValue,r,p,asInt,asIntOf,s,t,b,m,g,k,j,Question.forced,d,newRow]at f;rcases events_firstCells_in (P:=prog) (·=E) inf.size i _ w.drew _ (λa l c e=>by
  grind) ev f with h|⟨o,a,a,a⟩
 .exact .inr (qC _ _ ev h)
 simp_all
theorem WG{es:dS}{g:u5}(a:∀e∈es,G4 J w' e)(d:w.grownBy w' g)(e:∀b,g=some b->∃q t f,w.heap[b]? =some (.cells q t f))(b:∀(f:Addr)(wr:Bool),some f.block=g->J f wr):DX J w w' es:=by
 refine⟨a,d.size,λc a e a=>?_,λf j h=>?_,λk i a=>d.block k i (λz=>a ⟨k,0,none⟩ rfl (b _ _ z)),d.os,d.tape,d.output⟩
 .have a:some c≠g:=λz=>by
   grind
  exact(d.block c (cU.1 e).1 a).trans e
 .have a:some f.block≠g:=λz=>j (b _ _ z);have:=d.block _ h a;exact⟨World.cell?_of_block this,World.frozen?_of_block this⟩
theorem aB.BQ(F:aB prog H (DX J) I)(E:B[i]? =some o)(z:Region.wanted o (yielded B a.tmps)=true)(L:b.kind≠.early)(s x:Operand)(m:o.op=.call {callee:=.builtin .append,args:=#[s,x],argTypes:=#[100,100]})(C:es.length<2000000)(O:N<=w.heap.size)(r:a.eval s=v)(p:a.eval x=.slice (some ⟨nb,0,none⟩) 1 1)(n:fZ N w v es)(y:w.cell? ⟨nb,0,none⟩=some (.int .i64 t))(P:w.cell? ⟨nb,1,none⟩=some f)(M:f.oneCell'=true)(c:∀(e:Addr)(wr:Bool),some e.block=v.ownBlock->J e wr)(l:∀e:Addr,e.block=nb->J e false)(h:∀j w',fZ N w' j (es++[(t,f)])->w.grownBy w' v.ownBlock->(j.ownBlock=v.ownBlock\/j.ownBlock=some w.heap.size)->I (G (b.at (a.put o.dst j) (.inRegion B A::k)) D) w'):
 I (G (b.at a (.inRegion B (i::A)::k)) D) w:=by
 refine F.OA E z L λd K k=>?_;obtain⟨j,w',f,b,a,t,i⟩:=xB (w.at d) o.type (N:=N) O (v:=v) C n y P M;refine uponK_append s x 100 m r p f (k _ w' ⟨WG (λev k=>?_) a (λg d=>by obtain⟨_,q,f⟩:=fZ.lt n d;exact⟨q,_,_,f⟩) c,h j w' b ⟨a.os,a.tape,a.output,a.size,a.block⟩ t⟩);have u:=mem_listed k;rw[events_append_op s x 100 m r p]at u;rcases i ev u with ⟨e,d,⟨b,g⟩|b⟩|d
 .exact .inl ⟨e,d,rfl,by rw[b];exact l e g,by rw[g];exact c7 (au (w:=w) y) a.size⟩
 .obtain⟨g,q,f⟩:=fZ.lt n b.symm;exact .inl ⟨e,d,rfl,c _ _ b,c7 (cU.1 f).1 a.size⟩
 .exact .inr d
theorem aB.JM(F:aB prog H (DX J) I)(U:B[i]? =some o)(R:Region.wanted o (yielded B a.tmps)=true)(C:b.kind≠.early)(s x:Operand)(l:o.op=.call {callee:=.builtin .append,args:=#[s,x],argTypes:=#[100,3]})(O:a.eval s=.slice (some ⟨E,off,none⟩) p y)(N:a.eval x=.int .i64 n)(Q:w.heap[E]? =some (.cells q 128 (0,0)))(x:xs.length=2*p)(s:∀(j:Nat)(u:ay),xs[j]? =some u->q[off+j]? =some u)(j:0<n)(V:y<p+n)(T:p+n<2000000)(t:∀e:Addr,e.block=E->J e false)(h:∀r c u,p+n<=r->c.size=2*(r-p)->w.alloc (.cells (xs.toArray++c) 128)=u->I (G (b.at (a.put o.dst (.slice (some ⟨w.heap.size,0,none⟩) (p+n) r)) (.inRegion B A::k)) D) u):
 I (G (b.at a (.inRegion B (i::A)::k)) D) w:=by
 refine F.OA U R C λd K i=>?_;obtain⟨r,c,b,W,v,M⟩:=xA (w.at d) o.type (n:=n) Q x s j V T;have m:(w.at d).grownBy ((w.at d).drew.alloc (.cells (xs.toArray++c) 128)) none:=⟨rfl,rfl,rfl,by simp,λk C _=>Below.heap_alloc (w.at d).drew _ k C⟩
 have f:uponK o a K ((execOp a.eval o).run prog (w.at d)):=by
  unfold execOp;simp only[l,resolve,invoke,builtin,Am,An,Hv,YX,nP,uf,O,N,b];refine i _ _ ⟨WG (g:=none) (λev S=>?_) m (λg L=>by cases L) (λe wr z=>by cases z),?_⟩
  .have P:=mem_listed S;have b:(execOp a.eval o).events prog (w.at d) #[]=(Builtin.append_ #[100,3] o.type #[.slice (some ⟨E,off,none⟩) p y,.int .i64 n]).events prog (w.at d) #[]:=by
    unfold execOp;simp only[l,resolve,invoke,builtin,YV,An,Sem.events_pure,xg,YX,nP,uf,O,N];simp_all
   rw[b]at P;rcases M ev P with ⟨e,a,g,b⟩|a
   .exact .inl ⟨e,a,rfl,by rw[g];exact t e b,by rw[b];exact c7 (cU.1 Q).1 m.size⟩
   .exact .inr a
  .exact F.at' _ (w.alloc (.cells (xs.toArray++c) 128)) (d+1) (h r c _ W v rfl)
 exact f
theorem aB.BH(F:aB prog H (DX J) I)(T:B[i]? =some o)(R:Region.wanted o (yielded B a.tmps)=true)(v:b.kind≠.early)(s x:Operand)(m:o.op=.call {callee:=.builtin .copy,args:=#[s,x],argTypes:=#[100,100]}){dl:Nat}{bb:Addr}{vs:iO}(P:a.eval s=.slice (some ⟨E,p,none⟩) dl dc)(N:a.eval x=.slice (some bb) O sc)(M:w.heap[E]? =some (.cells q 128 (0,0)))(x:n=Nat.min O dl)(U:vs.length=2*n)(r:p+vs.length<=q.size)(s:∀j u,vs[j]? =some u->w.cell? (bb.add j)=some u)(V:∀u∈vs,u.oneCell'=true)(l:∀(c:Addr)(wr:Bool),c.block=E->J c wr)(t:∀c:Addr,c.block=bb.block->J c false)(L:bb.block<w.heap.size)(h:∀j,w.setRow E (q.toList.take p++vs++q.toList.drop (p+vs.length)).toArray=j->I (G (b.at (a.put o.dst (.int .i64 n)) (.inRegion B A::k)) D) j):
 I (G (b.at a (.inRegion B (i::A)::k)) D) w:=by
 refine F.op T R v λd K i=>?_;obtain⟨b,C⟩:=Cu (w.at d) o.type (dc:=dc) (sc:=sc) M x U r s V;have f:(w.at d).grownBy ((w.at d).setRow E (q.toList.take p++vs++q.toList.drop (p+vs.length)).toArray) (some E):=⟨rfl,rfl,rfl,by simp,λk _ v=>setRow_other _ E k _ (λe=>v (by rw[e]))⟩;unfold execOp;simp only[m,resolve,invoke,builtin,Am,An,Hv,YX,nP,uf,P,N,b];refine i _ (w.setRow E (q.toList.take p++vs++q.toList.drop (p+vs.length)).toArray) ⟨WG (g:=some E) (λev S=>?_) f (λg y=>by cases y;exact⟨_,_,_,M⟩) (λc wr z=>l c wr (Option.some.inj z)),h _ rfl⟩;have Q:=mem_listed S;have b:(execOp a.eval o).events prog (w.at d) #[]=(Builtin.copy_ #[100,100] o.type #[.slice (some ⟨E,p,none⟩) dl dc,.slice (some bb) O sc]).events prog (w.at d) #[]:=by
  unfold execOp;simp only[m,resolve,invoke,builtin,YV,An,Sem.events_pure,xg,YX,nP,uf,P,N];simp_all
 rw[b]at Q;obtain⟨c,d,⟨a,b⟩|a⟩:=C ev Q
 .exact .inl ⟨c,d,rfl,by rw[a];exact t c b,by rw[b];exact c7 L f.size⟩
 .exact .inl ⟨c,d,rfl,l _ _ a,by rw[a];exact c7 (cU.1 M).1 f.size⟩
theorem sE(v:B[i]? =some o)(t:Region.wanted o (yielded B a.tmps)=true)(y:b.kind≠.early)(s x:Operand)(j:o.op=.call {callee:=.value (.func 86),args:=#[s,x],argTypes:=Q}){q:Nat}{g:gd}{h f:TypeId}(u:a.eval s=.slice (some ⟨nb,0,none⟩) S T)(r:a.eval x=.slice (some ⟨E,p,none⟩) R q)(n:w.heap[nb]? =some (.cells g h (0,0)))(l:w.heap[E]? =some (.cells M f (0,0)))(e:nb≠E)(C:M.size≠0):
 stepG prog H (G (b.at a (.inRegion B (i::A)::k)) D) w=.go (G (b.at (a.put o.dst (.bool false)) (.inRegion B A::k)) D) w #[]:=by
 have i:∀w,(Go.sizeOf 128).run prog w=.ok 2 w:=λw=>by
  rfl
 have b:∀(k:Nat),w.frozen? ⟨nb,k,none⟩=false:=λk=>by simp[World.frozen?,n]
 have d:w.shape? nb=some (h,g.size):=by simp[World.shape?,n]
 have c:w.shape? E=some (f,M.size):=by simp[World.shape?,l]
 have n:=Lib.run_overlaps_apart (P:=prog) w 100 4 128 dZ 2 i ⟨nb,0,none⟩ ⟨E,p,none⟩ S T R q e h f g.size M.size d c C (b 0) (b _);refine stepG_entry (e:=Extern.SlicesOverlaps.overlaps #[100,100] #[4]) v t y j func86 (by kernel_rfl) (by kernel_rfl) (by kernel_rfl) (by kernel_rfl) (v:=.bool false) (w':=w) (evs:=#[]) (by simp_all) ?_ (by simp);rw[show(#[s,x]:Array Operand).map a.eval=#[a.eval s,a.eval x]from by simp,u,r];have h:(nb !=E)=true:=by simp_all
 have f:(nb==E)=false:=by simp_all
 obtain⟨m,a⟩:∃m,M.size=m+1:=⟨M.size-1,by omega⟩;rw[a]at c;have j:=b 0;have i:=b g.size;obtain⟨inf,z,m,a,g,a,a⟩:=lO;unfold Extern.SlicesOverlaps.overlaps;delta Extern.SlicesOverlaps.overlaps.match_4;dsimp -zeta only[Array.casesOn,Array.size,List.length,Array.getLit];have a:¬nb=E:=e;have b:∀(k:Nat),w.frozen? ⟨E,k,none⟩=false:=λk=>by simp[World.frozen?,l]
 simp[run_underlying dZ,sizeOf,typeInfo,m,g,h,f,a,noView,viewAt,mayBeOne,stringish,d,c,j,i,b,Result.evThen]
theorem aB.apart(F:aB prog H (DX J) I)(l:B[i]? =some o)(g:Region.wanted o (yielded B a.tmps)=true)(m:b.kind≠.early)(s x:Operand)(c:o.op=.call {callee:=.value (.func 86),args:=#[s,x],argTypes:=Q}){q:Nat}{r:gd}{n e:TypeId}(j:a.eval s=.slice (some ⟨nb,0,none⟩) S T)(f:a.eval x=.slice (some ⟨E,p,none⟩) R q)(p:w.heap[nb]? =some (.cells r n (0,0)))(n:w.heap[E]? =some (.cells M e (0,0)))(e:nb≠E)(q:M.size≠0)(h:I (G (b.at (a.put o.dst (.bool false)) (.inRegion B A::k)) D) w):I (G (b.at a (.inRegion B (i::A)::k)) D) w:=by
 refine F.step _ _ rfl λd=>⟨_,w.at d,#[],sE l g m s x c j f p n e q,F.idle _ _,F.at' _ _ _ h,λz v _ _=>?_⟩
 have a:(Yq z v E M).size=M.size:=by unfold Yq;grind
 exact sE l g m s x c j f (vF (w:=w.at d) z v p) (vF (w:=w.at d) z v n) e (by omega)
end Go.Proofs.YtobagnjnbmgidaaGreatDoor
