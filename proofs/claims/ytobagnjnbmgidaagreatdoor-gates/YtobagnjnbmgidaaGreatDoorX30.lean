import Derived.Test.YtobagnjnbmgidaaGreatDoorX8
import Derived.ChangeSlices
set_option linter.all false
set_option maxHeartbeats 0
set_option maxRecDepth 100000
namespace Go.Proofs.YtobagnjnbmgidaaGreatDoor
open Go.Conc Go.RowKit Tryz Go.ChangeShapes
variable{fuel k:Nat}{t:TypeId}{cs:iG}
variable{main l:Bool}{Ok:dw}{H:Type}{W:aj}{sp:rm}{enc:TypeId×Value->H}
theorem iE(w:aj)(d:Nat):(w.at d).heap.size=w.heap.size:=rfl
theorem size_set(w:aj)(a:Addr)(v:ay):(w.setCell a v).heap.size=w.heap.size:=by simp[World.setCell]
theorem wr{x:Int}(b:-1000000<=x)(a:x<=1000000):IntKind.i64.wrap x=x:=by
 simp only[IntKind.wrap,IntKind.bits,IntKind.signed]<;>(try simp)<;>omega
def eK(lo n hi:Int):Bool:=decide (lo<=n)&&decide (n<=hi)
def aK(k a b c d e:Int):Bool:=
 if k=1 then eK 1 a 9&&eK 0 b 1000&&eK 1 c 9&&eK 0 d 10000 else if k=2 then true else if k=3 then eK 1 a 1000&&eK 1 b 20
 else if k=4 then eK 1 a 20&&eK 1 b a&&eK 1 c 100&&eK 0 d 1000&&eK 1 e 9 else if k=5 then eK 1 a 9&&eK 0 b 1000 else if k=6 then eK 1 a 1000 else false
def lX(T:oO):Nat->Nat->Bool
 |0,_=>true
 |m+1,k=>eK 1 (T k 0) 4&&eK 0 (T k 2) 1000&&lX T m (k+1)
def iy(st:Int)(nt:Nat)(T:oO):Bool:=eK 0 st 1000&&!decide (12<nt)&&lX T nt 0
def wM(w:aj)(sa:eN)(n:Nat)(T:oO):Prop:=∀i,i<n->∃b o:Nat,sa=some ⟨b,o,none⟩/\∀j,j<3->w.cell? ⟨b,o+i*3+j,none⟩=some (.int .i64 (T i j))
def cZ(L:oO):Nat->Nat->Int->Nat
 |0,k,_=>k
 |m+1,k,r=>if 2<(if L k 0=1 then r+1 else r)\/aK (L k 0) (L k 1) (L k 2) (L k 3) (L k 4) (L k 5)=false then k else cZ L m (k+1) (if L k 0=1 then r+1 else r)
def nJ(w:aj)(sa:eN)(n:Nat)(L:oO):Prop:=∀i,i<n->∃b o:Nat,sa=some ⟨b,o,none⟩/\∀j,j<6->w.cell? ⟨b,o+i*6+j,none⟩=some (.int .i64 (L i j))
theorem H6(b o n:Nat):(⟨b,o,none⟩:Addr).add n=⟨b,o+n,none⟩:=by unfold Addr.add;split<;>simp_all
structure Cl where
 st:Int
 ta:Option Addr
 nt:Nat
 tc:Nat
 T:Nat->Nat->Int
def Cl.ww(c:Cl):Bool:=iy c.st c.nt c.T
def fS(g:Nat->Cl):Nat->Nat->Nat
 |0,k=>k
 |m+1,k=>if(g k).ww=false then k else fS g m (k+1)
def sY(w:aj)(sa:eN)(m:Nat)(g:Nat->Cl):Prop:=
 ∀i,i<m->∃b o:Nat,sa=some ⟨b,o,none⟩/\w.cell? ⟨b,o+i*2,none⟩=some (.int .i64 (g i).st)/\w.cell? ⟨b,o+i*2+1,none⟩=some (.slice (g i).ta (g i).nt (g i).tc)/\wM w (g i).ta (g i).nt (g i).T
def VF(Ok:dw)(sa:eN)(m:Nat)(g:Nat->Cl):Prop:=(∀p:Addr,sa=some p->∀a:Addr,a.block=p.block->Ok a false)/\∀i,i<m->0<(g i).nt->∀p:Addr,(g i).ta=some p->∀a:Addr,a.block=p.block->Ok a false
def jG(n:Nat)(L:oO)(m:Nat)(g:Nat->Cl):Int×Int:=
 if 6<n then(1,0)else if cZ L n 0 0<n then(2,cZ L n 0 0)else if 9<m then(3,0)else if fS g m 0<m then(4,fS g m 0)else(0,0)
theorem yX(L:oO):∀(m k:Nat)(r:Int),cZ L m k r<=k+m
 |0,k,r=>by simp[cZ]
 |m+1,k,r=>by
  rw[cZ];have:=yX L m (k+1) (if L k 0=1 then r+1 else r)
  by_cases h:(2<(if L k 0=1 then r+1 else r)\/aK (L k 0) (L k 1) (L k 2) (L k 3) (L k 4) (L k 5)=false)
  .rw[ah h];omega
  .rw[af h];omega
theorem CJ(g:Nat->Cl):∀(m k:Nat),fS g m k<=k+m
 |0,k=>by simp[fS]
 |m+1,k=>by
  rw[fS];split
  .omega
  .have:=CJ g m (k+1);omega
def jS(p:aI)(t:TypeId):List (TypeId×Nat):=match p.underlying t with|some (.struct fs)=>fs.toList.map λf=>(f.type,f.offset)|_=>[]
theorem u3:prog.underlying 3=some (.int .i64):=by kernel_rfl
theorem Zu:prog.underlying 23=some (.slice 43):=by kernel_rfl
theorem u41:prog.underlying 41=some (.slice 39):=by kernel_rfl
theorem f39:jS prog 39=[(3,0),(3,1),(3,2)]:=by kernel_rfl
theorem f43:jS prog 43=[(3,0),(41,1)]:=by kernel_rfl
theorem c39:prog.cellsOf 39=3:=by kernel_rfl
theorem YX:prog.cellsOf 43=2:=by kernel_rfl
theorem c41:prog.cellsOf 41=1:=by kernel_rfl
theorem c3:prog.cellsOf 3=1:=by kernel_rfl
theorem nE{u:TypeId}{j o:Nat}{x:DataW H×List MemPlace}(a:(jS prog t)[j]? =some (u,o))(hc:prog.cellsOf u=1)(ho:o<prog.cellsOf t)(h:DataW.trod enc prog W 0 sp l fuel t cs=some x):
 ∃v n y,cs[o]? =some v/\DataW.trod enc prog W 0 sp l n u [v]=some y:=by
 unfold jS at a
 split at a
 .rename_i fs m
  obtain⟨xs,n,rfl,_,i,g,d⟩:=DataW.trod_struct m h;simp only[List.getElem?_map,EK]at a;obtain⟨f,a,e⟩:=a;have c:fs[j]? =some f:=by simpa using a
  have hj:j<xs.length:=by rw[g];exact(cH.1 c).1
  have:=d j f c;simp only[Prod.mk.injEq]at e;obtain⟨rfl,rfl⟩:=e;rw[hc,oY hj]at this;cases b:cs.drop f.offset with
  |nil=>
   have:=cP List.length b
   simp at this
   omega
  |cons v r=>
   rw[b]at this;refine⟨v,n,_,?_,by simpa using this⟩;have p:(cs.drop f.offset)[0]? =some v:=by rw[b];rfl
   simpa using p
 .simp at a
theorem pX{a:Addr}(h:W.cells? 0 a k=some cs)(j:Nat)(hj:j<k):W.cell? (a.add j)=cs[j]? :=by
 unfold World.cells? at h;rw[ah (iN _)]at h;exact mapM_some_get h j j (by simp[hj])
theorem uK{e:TypeId}{x:DataW H×List MemPlace}(q:prog.underlying t=some (.slice e))(hc:prog.cellsOf e=k)(hk:0<k)(u:∀j,j<k->(jS prog e)[j]? =some (3,j))(h:DataW.trod enc prog W 0 sp l fuel t cs=some x):
 ∃sa n cap,∃T:Nat->Nat->Int,cs=[.slice sa n cap]/\∀i,i<n->∃b o:Nat,sa=some ⟨b,o,none⟩/\∀j,j<k->W.cell? ⟨b,o+i*k+j,none⟩=some (.int .i64 (T i j)):=by
 rcases DataW.trod_slice q h with ⟨rfl,_⟩|⟨a,len,cap,elems,rest,n,_,rfl,_,_,_,_,p,g,_,_⟩
 .exact⟨none,0,0,λ_ _=>0,rfl,λi c=>absurd c (by omega)⟩
 have each:∀i,i<len->∀j,j<k->∃m,W.cell? ((a.add (i*k)).add j)=some (.int .i64 m):=λi c j hj=>by
  have f:=g i c;rw[hc,oY (by omega),Option.bind_eq_some_iff]at f;obtain⟨C,B,A⟩:=f;obtain⟨v,D,y,z,w⟩:=nE (u j hj) c3 (by rw[hc];exact hj) A;obtain⟨m,e1,_,_⟩:=DataW.trod_int u3 w;rw[pX B j hj,z];exact⟨m,by simpa using e1⟩
 refine⟨some a,len,cap,λi j=>if c:i<len then(if hj:j<k then(each i c j hj).choose else 0)else 0,rfl,λi c=>?_⟩
 have r:a.spot=none:=by
  obtain⟨m,f⟩:=each 0 (by omega) 0 hk
  simpa [Addr.add]using World.cell?_spot f
 obtain⟨b,o,s⟩:=a;cases r;refine⟨b,o,rfl,λj hj=>?_⟩;have d:=(each i c j hj).choose_spec;simp only[mM c,mM hj];generalize (each i c j hj).choose=m at d ⊢;rw[H6,H6]at d;exact d
theorem Ad{x:DataW H×List MemPlace}(h:DataW.trod enc prog W 0 sp l fuel 41 cs=some x):∃sa n cap T,cs=[.slice sa n cap]/\wM W sa n T:=
 uK u41 c39 (by decide) (λj hj=>by rw[f39];match j,hj with|0,_=>rfl|1,_=>rfl|2,_=>rfl) h
theorem vP{x:DataW H×List MemPlace}(h:DataW.trod enc prog W 0 sp l fuel 23 cs=some x):∃sa m cap g,cs=[.slice sa m cap]/\sY W sa m g:=by
 rcases DataW.trod_slice Zu h with ⟨rfl,_⟩|⟨a,len,cap,elems,rest,n,_,rfl,_,_,_,_,r,p,_,_⟩
 .exact⟨none,0,0,λ_=>⟨0,none,0,0,λ_ _=>0⟩,rfl,λi e=>absurd e (by omega)⟩
 have each:∀i,i<len->∃c:Cl,W.cell? ((a.add (i*2)).add 0)=some (.int .i64 c.st)/\W.cell? ((a.add (i*2)).add 1)=some (.slice c.ta c.nt c.tc)/\wM W c.ta c.nt c.T:=λi e=>by
  have f:=p i e;rw[YX,oY (by omega),Option.bind_eq_some_iff]at f;obtain⟨F,w,u⟩:=f;obtain⟨v,K,y,E,D⟩:=nE (j:=0) (o:=0) (by rw[f43];rfl) c3 (by rw[YX];decide) u;obtain⟨I,J,G,C,B⟩:=nE (j:=1) (o:=1) (by rw[f43];rfl) c41 (by rw[YX];decide) u;obtain⟨m,e1,_,_⟩:=DataW.trod_int u3 D;obtain⟨sa,q,cap',T,e2,A⟩:=Ad B;simp only[List.cons.injEq,and_true]at e1 e2;subst e1;subst e2;exact⟨⟨m,sa,q,cap',T⟩,by rw[pX w 0 (by decide),E],by rw[pX w 1 (by decide),C],A⟩
 refine⟨some a,len,cap,λi=>if e:i<len then(each i e).choose else⟨0,none,0,0,λ_ _=>0⟩,rfl,λi e=>?_⟩
 have z:a.spot=none:=by
  obtain⟨c,f,_⟩:=each 0 (by omega)
  simpa [Addr.add]using World.cell?_spot f
 obtain⟨b,o,s⟩:=a;cases z;have d:=(each i e).choose_spec;simp only[mM e];generalize (each i e).choose=c at d ⊢;rw[H6,H6,H6]at d;exact⟨b,o,rfl,d.1,d.2.1,d.2.2⟩
theorem Jx(w:aj):(Instr.makeChan 99 (.int .i64 0)).run prog w=.ok (.chan (some w.heap.size)) (w.alloc (.chan 0 #[] false 0 0 false)):=by kernel_rfl
theorem LC(w:aj)(es:dL):(Instr.makeChan 99 (.int .i64 0)).events prog w es=es:=by kernel_rfl
theorem BU(w:aj):(Instr.makeChan 113 (.int .i64 0)).run prog w=.ok (.chan (some w.heap.size)) (w.alloc (.chan 0 #[] false 0 0 false)):=by kernel_rfl
theorem Ai(w:aj)(es:dL):(Instr.makeChan 113 (.int .i64 0)).events prog w es=es:=by kernel_rfl
def KZ:Nat->List Value
 |0=>[]
 |n+1=>.int .i64 0::.int .i64 0::.int .i64 0::.slice none 0 0::KZ n
theorem ES:∀(n j:Nat),j<n->(KZ n)[j*4]? =some (.int .i64 0)/\(KZ n)[j*4+1]? =some (.int .i64 0)/\(KZ n)[j*4+2]? =some (.int .i64 0)/\(KZ n)[j*4+3]? =some (.slice none 0 0)
 |n+1,0,_=>⟨rfl,rfl,rfl,rfl⟩
 |n+1,j+1,h=>by
  have:=ES n j (by omega);rw[show(j+1)*4=j*4+1+1+1+1 by omega]
  simpa [KZ]using this
def VL:Nat->List Value
 |0=>[]
 |n+1=>.int .i64 0::VL n
theorem zG:∀(n j:Nat),j<n->(VL n)[j]? =some (.int .i64 0)
 |n+1,0,_=>rfl
 |n+1,j+1,h=>zG n j (by omega)
theorem Wl(n:Nat)(h:n<=9)(w:aj):(Instr.makeSlice 58 (.int .i64 (n:Int)) (.int .i64 (n:Int))).run prog w=.ok (.slice (some ⟨w.heap.size,0,none⟩) n n) (w.alloc (.cells (VL n).toArray 3)):=by
 obtain rfl|rfl|rfl|rfl|rfl|rfl|rfl|rfl|rfl|rfl:n=0\/n=1\/n=2\/n=3\/n=4\/n=5\/n=6\/n=7\/n=8\/n=9:=by omega
 all_goals kernel_rfl
theorem RG(n:Nat)(h:n<=9)(w:aj)(es:dL):(Instr.makeSlice 58 (.int .i64 (n:Int)) (.int .i64 (n:Int))).events prog w es=es:=by
 obtain rfl|rfl|rfl|rfl|rfl|rfl|rfl|rfl|rfl|rfl:n=0\/n=1\/n=2\/n=3\/n=4\/n=5\/n=6\/n=7\/n=8\/n=9:=by omega
 all_goals kernel_rfl
theorem ZJ(n:Nat)(h:n<=9)(w:aj):(Instr.makeSlice 32 (.int .i64 (n:Int)) (.int .i64 (n:Int))).run prog w=.ok (.slice (some ⟨w.heap.size,0,none⟩) n n) (w.alloc (.cells (KZ n).toArray 46)):=by
 obtain rfl|rfl|rfl|rfl|rfl|rfl|rfl|rfl|rfl|rfl:n=0\/n=1\/n=2\/n=3\/n=4\/n=5\/n=6\/n=7\/n=8\/n=9:=by omega
 all_goals kernel_rfl
theorem Wk(n:Nat)(h:n<=9)(w:aj)(es:dL):(Instr.makeSlice 32 (.int .i64 (n:Int)) (.int .i64 (n:Int))).events prog w es=es:=by
 obtain rfl|rfl|rfl|rfl|rfl|rfl|rfl|rfl|rfl|rfl:n=0\/n=1\/n=2\/n=3\/n=4\/n=5\/n=6\/n=7\/n=8\/n=9:=by omega
 all_goals kernel_rfl
structure UT(w:aj)(B HD J:Nat)(sa:eN)(n cap:Nat):Prop where
 b1:w.cell? ⟨B,1,none⟩=some (.int .i64 (-1))
 b2:w.cell? ⟨B,2,none⟩=some (.pointer (some ⟨J,0,none⟩))
 b3:w.cell? ⟨B,3,none⟩=some (.slice sa n cap)
 b4:w.cell? ⟨B,4,none⟩=some (.slice (some ⟨HD,0,none⟩) n n)
 h:∀j,j<n->w.cell? ⟨HD,j,none⟩=some (.int .i64 0)/\w.frozen? ⟨HD,j,none⟩=false
end Go.Proofs.YtobagnjnbmgidaaGreatDoor
