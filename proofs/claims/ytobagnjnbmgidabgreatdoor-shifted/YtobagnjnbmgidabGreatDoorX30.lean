import Derived.Test.YtobagnjnbmgidabGreatDoorQ0
import Derived.ChangeSlices
set_option linter.all false
set_option maxHeartbeats 0
set_option maxRecDepth 100000
namespace Go.Proofs.YtobagnjnbmgidabGreatDoor
open Go.Conc Go.RowKit Tryz Go.ChangeShapes
variable{l k:Nat}{t:TypeId}{z:iO}
variable{E C:Bool}{D:dh}{H:Type}{W:aj}{sp:qS}{A:TypeId×Value->H}
def iL(w:aj)(d:Nat):(w.at d).heap.size=w.heap.size:=rfl
def size_set(w:aj)(a:Addr)(v:ay):(w.setCell a v).heap.size=w.heap.size:=by simp[World.setCell]
def wr{x:Int}(a:-1000000<=x)(a:x<=1000000):IntKind.i64.wrap x=x:=by
 simp only[IntKind.wrap,IntKind.bits,IntKind.signed]<;>(try simp)<;>omega
def eB(lo n hi:Int):Bool:=decide (lo<=n)&&decide (n<=hi)
def aF(k a b c d e:Int):Bool:=
 if k=1 then eB 1 a 9&&eB 0 b 1000&&eB 1 c 9&&eB 0 d 10000 else if k=2 then true else if k=3 then eB 1 a 1000&&eB 1 b 20
 else if k=4 then eB 1 a 20&&eB 1 b a&&eB 1 c 100&&eB 0 d 1000&&eB 1 e 9 else if k=5 then eB 1 a 9&&eB 0 b 1000 else if k=6 then eB 1 a 1000 else false
def lQ(T:oF):Nat->Nat->Bool
 |0,_=>true
 |m+1,k=>eB 1 (T k 0) 4&&eB 0 (T k 2) 1000&&lQ T m (k+1)
def iF(st:Int)(nt:Nat)(T:oF):Bool:=eB 0 st 1000&&!decide (12<nt)&&lQ T nt 0
def wL(w:aj)(sa:eP)(n:Nat)(T:oF):Prop:=∀i,i<n->∃b o:Nat,sa=some ⟨b,o,none⟩/\∀j,j<3->w.cell? ⟨b,o+i*3+j,none⟩=some (.int .i64 (T i j))
def cZ(L:oF):Nat->Nat->Int->Nat
 |0,k,_=>k
 |m+1,k,r=>if 2<(if L k 0=1 then r+1 else r)\/aF (L k 0) (L k 1) (L k 2) (L k 3) (L k 4) (L k 5)=false then k else cZ L m (k+1) (if L k 0=1 then r+1 else r)
def nF(w:aj)(sa:eP)(n:Nat)(L:oF):Prop:=∀i,i<n->∃b o:Nat,sa=some ⟨b,o,none⟩/\∀j,j<6->w.cell? ⟨b,o+i*6+j,none⟩=some (.int .i64 (L i j))
def G0(b o n:Nat):(⟨b,o,none⟩:Addr).add n=⟨b,o+n,none⟩:=by unfold Addr.add;split<;>simp_all
structure Cl where
 st:Int
 ta:Option Addr
 nt:Nat
 tc:Nat
 T:Nat->Nat->Int
def Cl.YM(c:Cl):Bool:=iF c.st c.nt c.T
def fY(g:Nat->Cl):Nat->Nat->Nat
 |0,k=>k
 |m+1,k=>if(g k).YM=false then k else fY g m (k+1)
def sG(w:aj)(sa:eP)(m:Nat)(g:Nat->Cl):Prop:=
 ∀i,i<m->∃b o:Nat,sa=some ⟨b,o,none⟩/\w.cell? ⟨b,o+i*2,none⟩=some (.int .i64 (g i).st)/\w.cell? ⟨b,o+i*2+1,none⟩=some (.slice (g i).ta (g i).nt (g i).tc)/\wL w (g i).ta (g i).nt (g i).T
def TO(D:dh)(sa:eP)(m:Nat)(g:Nat->Cl):Prop:=(∀p:Addr,sa=some p->∀a:Addr,a.block=p.block->D a false)/\∀i,i<m->0<(g i).nt->∀p:Addr,(g i).ta=some p->∀a:Addr,a.block=p.block->D a false
def jG(n:Nat)(L:oF)(m:Nat)(g:Nat->Cl):Int×Int:=
 if 6<n then(1,0)else if cZ L n 0 0<n then(2,cZ L n 0 0)else if 9<m then(3,0)else if fY g m 0<m then(4,fY g m 0)else(0,0)
def yB(L:oF):∀(m k:Nat)(r:Int),cZ L m k r<=k+m
 |0,k,r=>by simp[cZ]
 |m+1,k,r=>by
  rw[cZ];have:=yB L m (k+1) (if L k 0=1 then r+1 else r);by_cases h:(2<(if L k 0=1 then r+1 else r)\/aF (L k 0) (L k 1) (L k 2) (L k 3) (L k 4) (L k 5)=false)
  .rw[sJ h];omega
  .rw[af h];omega
def BP(g:Nat->Cl):∀(m k:Nat),fY g m k<=k+m
 |0,k=>by simp[fY]
 |m+1,k=>by
  rw[fY];split
  .omega
  .have:=BP g m (k+1);omega
def jR(p:aG)(t:TypeId):List (TypeId×Nat):=match p.underlying t with|some (.struct fs)=>fs.toList.map λf=>(f.type,f.offset)|_=>[]
def u3:prog.underlying 3=some (.int .i64):=ρ
def WZ:prog.underlying 23=some (.slice 38):=ρ
def Yg:prog.underlying 36=some (.slice 75):=ρ
def f39:jR prog 75=[(3,0),(3,1),(3,2)]:=ρ
def f43:jR prog 38=[(3,0),(36,1)]:=ρ
def c39:prog.cellsOf 75=3:=ρ
def Wi:prog.cellsOf 38=2:=ρ
def c41:prog.cellsOf 36=1:=ρ
def c3:prog.cellsOf 3=1:=ρ
def nB{u:TypeId}{j o:Nat}{x:DataW H×List MemPlace}(a:(jR prog t)[j]? =some (u,o))(q:prog.cellsOf u=1)(B:o<prog.cellsOf t)(h:DataW.trod A prog W 0 sp C l t z=some x):
 ∃v n y,z[o]? =some v/\DataW.trod A prog W 0 sp C n u [v]=some y:=by
 unfold jR at a;split at a
 .rename_i w m;obtain⟨k,n,rfl,_,i,g,d⟩:=DataW.trod_struct m h;simp only[List.getElem?_map,D3]at a;let⟨f,a,e⟩:=a;have c:w[j]? =some f:=by simpa using a
  have p:j<k.length:=by rw[g];exact(cU.1 c).1
  have:=d j f c;simp only[Prod.mk.injEq]at e;obtain⟨rfl,rfl⟩:=e;rw[q,mZ p]at this;cases b:z.drop f.offset with
  |nil=>
   have:=cT List.length b;simp at this;omega
  |cons v r=>
   rw[b]at this;refine⟨v,n,_,?_,by simpa using this⟩;have s:(z.drop f.offset)[0]? =some v:=by rw[b];rfl
   simpa using s
 .simp at a
def pF{a:Addr}(h:W.cells? 0 a k=some z)(j:Nat)(b:j<k):W.cell? (a.add j)=z[j]? :=by
 unfold World.cells? at h;rw[sJ (gl _)]at h;exact mapM_some_get h j j (by simp[b])
def uA{e:TypeId}{x:DataW H×List MemPlace}(r:prog.underlying t=some (.slice e))(q:prog.cellsOf e=k)(w:0<k)(B:∀j,j<k->(jR prog e)[j]? =some (3,j))(h:DataW.trod A prog W 0 sp C l t z=some x):
 ∃e n cap,∃T:Nat->Nat->Int,z=[.slice e n cap]/\∀i,i<n->∃b o:Nat,e=some ⟨b,o,none⟩/\∀j,j<k->W.cell? ⟨b,o+i*k+j,none⟩=some (.int .i64 (T i j)):=by
 rcases DataW.trod_slice r h with ⟨rfl,_⟩|⟨a,len,cap,elems,rest,n,_,rfl,_,_,_,_,e,p,_,_⟩
 .exact⟨none,0,0,λ_ _=>0,rfl,λi d=>absurd d ω⟩
 have each:∀i,i<len->∀j,j<k->∃m,W.cell? ((a.add (i*k)).add j)=some (.int .i64 m):=λi d j c=>by
  have g:=p i d;rw[q,mZ ω,Option.bind_eq_some_iff]at g;let⟨e,p,n⟩:=g;let⟨v,_,y,h,e⟩:=nB (B j c) c3 (by rw[q];exact c) n;let⟨m,n,_,_⟩:=DataW.trod_int u3 e;rw[pF p j c,h];exact⟨m,by simpa using n⟩
 refine⟨some a,len,cap,λi j=>if d:i<len then(if c:j<k then(each i d j c).choose else 0)else 0,rfl,λi d=>?_⟩;have u:a.spot=none:=by
  let⟨m,g⟩:=each 0 ω 0 w;simpa [Addr.add]using World.cell?_spot g
 let⟨b,o,s⟩:=a;cases u;refine⟨b,o,rfl,λj c=>?_⟩;have f:=(each i d j c).choose_spec;simp only[mJ d,mJ c];generalize (each i d j c).choose=m at f ⊢;rw[G0,G0]at f;exact f
def Y9{x:DataW H×List MemPlace}(h:DataW.trod A prog W 0 sp C l 36 z=some x):∃a n cap T,z=[.slice a n cap]/\wL W a n T:=
 uA Yg c39 δ (λj a=>by rw[f39];match j,a with|0,_=>rfl|1,_=>rfl|2,_=>rfl) h
def YH{x:DataW H×List MemPlace}(h:DataW.trod A prog W 0 sp C l 23 z=some x):∃j m cap g,z=[.slice j m cap]/\sG W j m g:=by
 rcases DataW.trod_slice WZ h with ⟨rfl,_⟩|⟨a,len,cap,elems,rest,n,_,rfl,_,_,_,_,g,p,_,_⟩
 .exact⟨none,0,0,λ_=>⟨0,none,0,0,λ_ _=>0⟩,rfl,λi e=>absurd e ω⟩
 have each:∀i,i<len->∃c:Cl,W.cell? ((a.add (i*2)).add 0)=some (.int .i64 c.st)/\W.cell? ((a.add (i*2)).add 1)=some (.slice c.ta c.nt c.tc)/\wL W c.ta c.nt c.T:=λi e=>by
  have k:=p i e;rw[Wi,mZ ω,Option.bind_eq_some_iff]at k;let⟨_,r,g⟩:=k;let⟨v,h,y,E,n⟩:=nB (j:=0) (o:=0) (by rw[f43];rfl) c3 (by rw[Wi];decide) g;let⟨_,_,_,D,h⟩:=nB (j:=1) (o:=1) (by rw[f43];rfl) c41 (by rw[Wi];decide) g;let⟨m,u,_,_⟩:=DataW.trod_int u3 n;let⟨j,q,f,T,t,B⟩:=Y9 h;simp only[List.cons.injEq,and_true]at u t;subst u;subst t;exact⟨⟨m,j,q,f,T⟩,by rw[pF r 0 δ,E],by rw[pF r 1 δ,D],B⟩
 refine⟨some a,len,cap,λi=>if e:i<len then(each i e).choose else⟨0,none,0,0,λ_ _=>0⟩,rfl,λi e=>?_⟩;have w:a.spot=none:=by
  let⟨c,k,_⟩:=each 0 ω;simpa [Addr.add]using World.cell?_spot k
 let⟨b,o,s⟩:=a;cases w;have d:=(each i e).choose_spec;simp only[mJ e];generalize (each i e).choose=c at d ⊢;rw[G0,G0,G0]at d;exact⟨b,o,rfl,d.1,d.2.1,d.2.2⟩
def ID(w:aj):(Instr.makeChan 114 (.int .i64 0)).run prog w=.ok (.chan (some w.heap.size)) (w.alloc (.chan 0 #[] false 0 0 false)):=ρ
def Ky(w:aj)(es:dS):(Instr.makeChan 114 (.int .i64 0)).events prog w es=es:=ρ
def A8(w:aj):(Instr.makeChan 128 (.int .i64 0)).run prog w=.ok (.chan (some w.heap.size)) (w.alloc (.chan 0 #[] false 0 0 false)):=ρ
def zO(w:aj)(es:dS):(Instr.makeChan 128 (.int .i64 0)).events prog w es=es:=ρ
def MA:Nat->List Value
 |0=>[]
 |n+1=>.int .i64 0::.int .i64 0::.int .i64 0::.slice none 0 0::MA n
def Eb:∀(n j:Nat),j<n->(MA n)[j*4]? =some (.int .i64 0)/\(MA n)[j*4+1]? =some (.int .i64 0)/\(MA n)[j*4+2]? =some (.int .i64 0)/\(MA n)[j*4+3]? =some (.slice none 0 0)
 |n+1,0,_=>⟨rfl,rfl,rfl,rfl⟩
 |n+1,j+1,h=>by
  have:=Eb n j ω;rw[show(j+1)*4=j*4+1+1+1+1 by omega];simpa [MA]using this
def TV:Nat->List Value
 |0=>[]
 |n+1=>.int .i64 0::TV n
def Qm:∀(n j:Nat),j<n->(TV n)[j]? =some (.int .i64 0)
 |n+1,0,_=>rfl
 |n+1,j+1,h=>Qm n j ω
def Um(n:Nat)(h:n<=9)(w:aj):(Instr.makeSlice 96 (.int .i64 (n:Int)) (.int .i64 (n:Int))).run prog w=.ok (.slice (some ⟨w.heap.size,0,none⟩) n n) (w.alloc (.cells (TV n).toArray 3)):=by
 obtain rfl|rfl|rfl|rfl|rfl|rfl|rfl|rfl|rfl|rfl:n=0\/n=1\/n=2\/n=3\/n=4\/n=5\/n=6\/n=7\/n=8\/n=9:=ω
 all_goals kernel_rfl
def PN(n:Nat)(h:n<=9)(w:aj)(es:dS):(Instr.makeSlice 96 (.int .i64 (n:Int)) (.int .i64 (n:Int))).events prog w es=es:=by
 obtain rfl|rfl|rfl|rfl|rfl|rfl|rfl|rfl|rfl|rfl:n=0\/n=1\/n=2\/n=3\/n=4\/n=5\/n=6\/n=7\/n=8\/n=9:=ω
 all_goals kernel_rfl
def Xd(n:Nat)(h:n<=9)(w:aj):(Instr.makeSlice 27 (.int .i64 (n:Int)) (.int .i64 (n:Int))).run prog w=.ok (.slice (some ⟨w.heap.size,0,none⟩) n n) (w.alloc (.cells (MA n).toArray 35)):=by
 obtain rfl|rfl|rfl|rfl|rfl|rfl|rfl|rfl|rfl|rfl:n=0\/n=1\/n=2\/n=3\/n=4\/n=5\/n=6\/n=7\/n=8\/n=9:=ω
 all_goals kernel_rfl
def Ul(n:Nat)(h:n<=9)(w:aj)(es:dS):(Instr.makeSlice 27 (.int .i64 (n:Int)) (.int .i64 (n:Int))).events prog w es=es:=by
 obtain rfl|rfl|rfl|rfl|rfl|rfl|rfl|rfl|rfl|rfl:n=0\/n=1\/n=2\/n=3\/n=4\/n=5\/n=6\/n=7\/n=8\/n=9:=ω
 all_goals kernel_rfl
structure Su(w:aj)(B HD J:Nat)(sa:eP)(n cap:Nat):Prop where
 b1:w.cell? ⟨B,1,none⟩=some (.int .i64 (-1))
 b2:w.cell? ⟨B,2,none⟩=some (.pointer (some ⟨J,0,none⟩))
 b3:w.cell? ⟨B,3,none⟩=some (.slice sa n cap)
 b4:w.cell? ⟨B,4,none⟩=some (.slice (some ⟨HD,0,none⟩) n n)
 h:∀j,j<n->w.cell? ⟨HD,j,none⟩=some (.int .i64 0)/\w.frozen? ⟨HD,j,none⟩=false
end Go.Proofs.YtobagnjnbmgidabGreatDoor
