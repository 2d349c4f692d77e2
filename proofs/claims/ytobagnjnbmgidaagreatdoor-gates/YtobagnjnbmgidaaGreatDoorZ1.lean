import Derived.Test.YtobagnjnbmgidaaGreatDoorA0
import Derived.StepT
import Derived.RunT
import Derived.Laws.World
import Derived.Conc.CompanyMem
import Derived.Conc.CompanyCalls
import Derived.Conc.CompanyDraw
import Derived.Conc.DeferLaws
import Derived.Conc.Starve
import Derived.Conc.AppendWalk
import Derived.RowKit
import Derived.KernelRfl
import Derived.Below
import Derived.OwnWalk
import Derived.WalkKit
import Derived.Conc.Token
import Derived.Conc.MarkLaws
set_option linter.all false
namespace Go.Proofs.YtobagnjnbmgidaaGreatDoor
open Go Go.Conc Go.RowKit
open Go.ConcN (sumTo upd sumTo_upd upd_ne upd_same)
variable{args:Array Value}{r rest:List Nat}{l:List Oper}{d i:Nat}{o:Oper}{α:Type}{e:TypeId}{x:Value}{p:aI}
variable{main:Bool}{D:World->World->Array Event->Prop}{Ψ Stop:gi}{b:aE}{cs:cW}{w w':aj}{E:b9}{Ok:Addr->Bool->Prop}{Still:dr}{Mem L:qo}{h j c B' kk n:Nat}{u T:Trace}{g a₂ g' U V gh gm O:aW}{Inb:Nat->Option Seat}{J:jH}{q:cm}{v z z':Value}{M M':Nat->Goroutine->Prop}{Q Q':Goroutine->Prop}{m:Int}
def mH(z:Addr)(v:Value):Obj->Obj
 |.cells c elem frozen=>.cells (if z.spot.isSome then c else c.setIfInBounds z.off v) elem frozen
 |o=>o
theorem heap_set(w:aj)(z:Addr)(v:Value)(r:Nat):(w.setCell z v).heap[r]? =if z.block=r then(w.heap[r]?).map (mH z v)else w.heap[r]? :=by
 simp only[World.setCell,rA]
 split
 .cases w.heap[r]? with
  |none=>rfl
  |some o=>cases o<;>rfl
 .rfl
theorem fB(h:∀r:Nat,w.heap[r]? =w'.heap[r]?)(C:w.tape=w'.tape)(A:w.drawn=w'.drawn)(y:w.os=w'.os)(f:w.output=w'.output):w=w':=by
 cases w;cases w'
 simp only[World.mk.injEq];exact⟨Array.ext_getElem? h,C,A,y,f⟩
theorem Dm{a z:Addr}(F:a.block=z.block)(y:a≠z)(o:Obj):mH a x (mH z v o)=mH z v (mH a x o):=by
 cases o with
 |cells c e f=>
  simp only[mH]
  by_cases C:a.spot.isSome<;>by_cases A:z.spot.isSome<;>simp only[C,A,if_true,if_false]
  have:z.off≠a.off:=λe=>y (by
   cases a;cases z
   simp_all)
  congr 1
  simp only[tG,if_false];exact Array.setIfInBounds_comm _ _ this
 |_=>rfl
theorem vJ(w:aj){a z:Addr}(x v:Value)(f:a≠z):(w.setCell z v).setCell a x=(w.setCell a x).setCell z v:=by
 refine fB (λr=>?_) rfl rfl rfl rfl;simp only[heap_set]
 by_cases A:a.block=r<;>by_cases y:z.block=r<;>simp only[A,y,if_true,if_false]
 cases w.heap[r]? with
 |none=>rfl
 |some o=>simp only[fy];rw[Dm (A.trans y.symm) f]
theorem u7(w:aj)(a z:Addr)(v:Value)(h:w.cell? a=none):(w.setCell z v).cell? a=none:=by
 unfold World.cell? at h ⊢;rw[heap_set]
 by_cases e:z.block=a.block
 .rw[ah e]
  cases y:w.heap[a.block]? with
  |none=>rfl
  |some o=>
   rw[y]at h;cases o with
   |cells c el f=>
    simp only[fy,mH]at h ⊢
    by_cases C:a.spot.isSome<;>simp only[C,if_true,if_false,tG]at h ⊢
    by_cases A:z.spot.isSome<;>simp only[A,if_true,if_false,tG]
    .exact h
    .rw[MR]at h ⊢;simpa using h
   |_=>rfl
 .rw[af e];exact h
def g9(w:aj)(b:Nat):Prop:=∃c el f,w.heap[b]? =some (.cells c el f)
theorem g9.set{b:Nat}(h:g9 w b)(z:Addr)(v:Value):g9 (w.setCell z v) b:=by
 obtain⟨c,el,f,e⟩:=h;unfold g9;rw[heap_set,e]
 by_cases x:z.block=b
 .rw[ah x];exact⟨_,_,_,rfl⟩
 .rw[af x];exact⟨_,_,_,rfl⟩
theorem g9.lt{b:Nat}(h:g9 w b):b<w.heap.size:=by
 obtain⟨c,el,f,e⟩:=h;exact(cH.1 e).1
theorem Dl(w:aj)(z:Addr)(v:Value)(r:Nat):(w.setCell z v).shape? r=w.shape? r:=by
 unfold World.shape?;rw[heap_set]
 by_cases e:z.block=r
 .rw[ah e]
  cases w.heap[r]? with
  |none=>rfl
  |some o=>
   cases o with
   |cells c el f=>simp only[fy,mH];by_cases h:z.spot.isSome<;>simp[h]
   |_=>rfl
 .rw[af e]
theorem oy(z:Addr)(v:Value){r:Nat}(y:g9 w z.block){o:Obj}(ho:w.heap[r]? =some o)(A:∀c el f,o≠.cells c el f):z.block≠r/\(w.setCell z v).heap[r]? =some o:=by
 have:z.block≠r:=λe=>by
  obtain⟨c,el,f,h⟩:=y;rw[e,ho]at h;exact A _ _ _ (Option.some.inj h)
 exact⟨this,by rw[heap_set,af this];exact ho⟩
theorem mQ{p:aI}{c:Array Value}{e:TypeId}{k:Nat}(v:Value):∀(f x stop:Nat)(l:List (Nat×Nat×List UInt8)),seenCells p c e f x stop=.ok l->(∀t∈l,t.1≠k)->seenCells p (c.setIfInBounds k v) e f x stop=.ok l
 |0,x,stop,l,h,_=>by simp[seenCells]at h
 |f+1,x,stop,l,h,I=>by
  unfold seenCells at h ⊢
  split at h
  .rename_i A;rw[ah A];exact h
  rename_i A
  rw[af A];dsimp only at h ⊢
  split at h
  .cases h
  rename_i S
  rw[af S]
  split at h
  .cases h
  rename_i i s X
  split at h
  .cases h
  rename_i y R
  split at h
  .cases h
  .cases h
  rename_i bs H F
  cases C:seenCells p c e f (s+bs.length) stop with
  |error m=>rw[C]at h;simp[Except.map]at h
  |ok N=>
   rw[C]at h;simp only[Except.map,Except.ok.injEq]at h;subst h;have G:i≠k:=I _ (bS ..);rw[ku (λe=>G e.symm),R];dsimp only;rw[F]
   split
   .rename_i q;cases q
   .rename_i q;cases q;exact absurd rfl (H)
   .rename_i q
    cases q
    rw[mQ v f _ _ N C (λt W=>I t (aO _ W))]
    rfl
def kZ(z:Addr)(v:Value)(b:Nat)(c:Array Value):Array Value:=if z.block=b then(if z.spot.isSome then c else c.setIfInBounds z.off v)else c
theorem vM{b:Nat}{c:Array Value}{f:Nat×Nat}(z:Addr)(v:Value)(h:w.heap[b]? =some (.cells c e f)):(w.setCell z v).heap[b]? =some (.cells (kZ z v b c) e f):=by
 rw[heap_set,h];unfold kZ
 split<;>rfl
theorem Ds{c:Array Value}{z:Addr}{b:Nat}(v:Value){f x stop:Nat}{l:List (Nat×Nat×List UInt8)}(h:seenCells p c e f x stop=.ok l)(A:∀t∈l,({block:=b,off:=t.1}:Addr)≠z):seenCells p (kZ z v b c) e f x stop=.ok l:=by
 unfold kZ
 split
 .rename_i F
  split
  .exact h
  .rename_i C
   refine mQ v f x stop l h λt y e=>A t y ?_
   cases z
   simp_all
 .exact h
theorem xN{at_:Addr}{u:TypeId}{k:Addr}{atomic:Bool}{c:Array Value}{A:Nat×Nat}{first:Nat}{f:Value}{cells:List (Nat×Nat×List UInt8)}(z:Addr)(v:Value)(h:w.seen p at_ u k atomic=.ok (c,e,A,first,f,cells))(W:∀t∈cells,({block:=at_.block,off:=t.1}:Addr)≠z):
 w.heap[at_.block]? =some (.cells c e A)/\(w.setCell z v).seen p at_ u k atomic=.ok (kZ z v at_.block c,e,A,first,f,cells):=by
 have S:∀{α:Type}(m:String),(MonadExcept.throw m:Except String α)=.error m:=λ_=>rfl
 unfold World.seen at h ⊢;simp only[bind,Except.bind,throw,throwThe,MonadExceptOf.throw,pure,Except.pure,S]at h ⊢
 by_cases R:(k.spot.isSome||at_.spot.isSome)=true
 .rw[ah R]at h;cases h
 rw[af R]at h ⊢;cases N:plainCell p p.depth u k.off with
 |none=>rw[N]at h;cases h
 |some lk=>
 simp only[N]at h ⊢;cases I:Option.map (λx=>x.length) lk.bytes? with
 |none=>rw[I]at h;cases h
 |some size=>
 simp only[I]at h ⊢;cases H:byteOfCell p p.depth u k.off with
 |none=>rw[H]at h;cases h
 |some β=>
 simp only[H]at h ⊢;cases ho:w.heap[at_.block]? with
 |none=>rw[ho]at h;cases h
 |some o=>
 cases o with
 |cells c0 y f0=>
  rw[vM z v ho];simp only[ho]at h ⊢
  by_cases G:p.cellsOf y=0
  .rw[ah G]at h;cases h
  rw[af G]at h ⊢;cases F:byteOfCell p p.depth y (at_.off % p.cellsOf y)with
  |none=>rw[F]at h;cases h
  |some b0=>
  simp only[F]at h ⊢;cases C:seenCells p c0 y (size+1) (at_.off / p.cellsOf y*p.bytesOf y+b0+β) (at_.off / p.cellsOf y*p.bytesOf y+b0+β+size)with
  |error m=>rw[C]at h;cases h
  |ok l=>
  simp only[C]at h
  have hl:c0=c/\y=e/\f0=A/\at_.off / p.cellsOf y*p.bytesOf y+b0+β=first/\lk=f/\l=cells:=by
   revert h
   repeat' split
   all_goals intro h
   all_goals first|(cases h;done)|(simp only[Except.ok.injEq,Prod.mk.injEq]at h;exact h)
  obtain⟨rfl,rfl,rfl,rfl,rfl,rfl⟩:=hl;rw[Ds v C W];refine⟨rfl,?_⟩
  revert h
  dsimp only
  repeat' split
  all_goals intro h
  all_goals first|(cases h;done)|rfl
 |_=>rw[ho]at h;cases h
theorem vq{at_:Addr}{u:TypeId}{k:Addr}{atomic:Bool}{t:List Addr}(z:Addr)(v:Value)(h:w.viewLoad p at_ u k atomic=.ok (x,t))(H:∀a∈t,a≠z):
 (w.setCell z v).viewLoad p at_ u k atomic=.ok (x,t):=by
 have G:∀{α:Type}(m:String),(MonadExcept.throw m:Except String α)=.error m:=λ_=>rfl
 unfold World.viewLoad at h ⊢;simp only[bind,Except.bind,throw,throwThe,MonadExceptOf.throw,pure,Except.pure,G]at h ⊢;cases C:w.seen p at_ u k atomic with
 |error m=>rw[C]at h;cases h
 |ok r=>
 obtain⟨c,e,N,first,f,cells⟩:=r;simp only[C]at h;cases A:f.ofBytes (cells.flatMap λy=>(y.2.2.drop (first-y.2.1)).take (first+(f.bytes?.map (·.length)).getD 0-max first y.2.1))with
 |none=>simp only[A]at h;cases h
 |some y=>
 simp only[A,Except.ok.injEq,Prod.mk.injEq]at h;obtain⟨rfl,rfl⟩:=h;obtain⟨_,I⟩:=xN z v C λy F=>H _ (gL.2 ⟨y,F,rfl⟩)
 rw[I];simp only[A]
theorem uW{z:Addr}{v:Value}{b:Nat}{β:Type}{F:Array Value->Nat×β->Except String (Array Value)}(C:∀c f t,({block:=b,off:=t.1}:Addr)≠z->F c t=.ok f->F (kZ z v b c) t=.ok (kZ z v b f)):
 ∀(l:List (Nat×β))(c f:Array Value),(∀t∈l,({block:=b,off:=t.1}:Addr)≠z)->l.foldlM F c=.ok f->l.foldlM F (kZ z v b c)=.ok (kZ z v b f)
 |[],c,f,_,h=>by
  simp only[List.foldlM_nil,pure,Except.pure,Except.ok.injEq]at h ⊢;rw[h]
 |t::l,c,f,A,h=>by
  rw[List.foldlM_cons]at h ⊢;simp only[bind,Except.bind]at h ⊢;cases y:F c t with
  |error m=>rw[y]at h;cases h
  |ok G=>
   rw[y]at h;rw[C c G t (A t (bS ..)) y];exact uW C l G f (λt H=>A t (aO _ H)) h
theorem Fv{z:Addr}{b:Nat}{c:Array Value}(f:({block:=b,off:=i}:Addr)≠z):(kZ z v b c)[i]? =c[i]? :=by
 unfold kZ
 split
 .split
  .rfl
  .exact ku λe=>f (by cases z;simp_all)
 .rfl
theorem Fu{z:Addr}{b:Nat}{c:Array Value}(f:({block:=b,off:=i}:Addr)≠z):(kZ z v b c).setIfInBounds i x=kZ z v b (c.setIfInBounds i x):=by
 unfold kZ
 split
 .split
  .rfl
  .exact Array.setIfInBounds_comm _ _ λe=>f (by cases z;simp_all)
 .rfl
theorem Ef{z:Addr}{b:Nat}{c:Array Value}{e:TypeId}{f:Nat×Nat}:
 ({w.setCell z v with heap:=(w.setCell z v).heap.setIfInBounds b (.cells (kZ z v b c) e f)}:aj)=World.setCell {w with heap:=w.heap.setIfInBounds b (.cells c e f)} z v:=by
 refine fB (λr=>?_) rfl rfl rfl rfl;rw[heap_set];dsimp only;rw[zF,zF,heap_set];have y:(w.setCell z v).heap.size=w.heap.size:=by simp[World.setCell]
 rw[y]
 by_cases A:b=r
 .subst A
  rw[ah rfl,ah rfl]
  by_cases C:b<w.heap.size
  .simp only[C,if_true,fy,mH,kZ];split<;>rfl
  .simp only[C,if_false,xA];split<;>rfl
 .rw[af A,af A]
theorem tK{at_:Addr}{u:TypeId}{k:Addr}{atomic:Bool}{t:List Addr}(z:Addr)(v:Value)(h:w.viewStore p at_ u k x atomic=.ok (w',t))(S:∀a∈t,a≠z):
 (w.setCell z v).viewStore p at_ u k x atomic=.ok (w'.setCell z v,t):=by
 have R:∀{α:Type}(m:String),(MonadExcept.throw m:Except String α)=.error m:=λ_=>rfl
 unfold World.viewStore at h ⊢;simp only[bind,Except.bind,throw,throwThe,MonadExceptOf.throw,pure,Except.pure,R]at h ⊢
 by_cases I:(!tight p p.depth u)=true
 .rw[ah I]at h;cases h
 rw[af I]at h ⊢;cases F:w.seen p at_ u k atomic with
 |error m=>rw[F]at h;cases h
 |ok r=>
 obtain⟨c,e,Z,first,G,cells⟩:=r;simp only[F]at h;cases H:x.bytes? with
 |none=>rw[H]at h;cases h
 |some bytes=>
 simp only[H]at h ⊢
 split at h
 .cases h
 rename_i Y
 split at h
 .cases h
 rename_i N W
 simp only[Except.ok.injEq,Prod.mk.injEq]at h;obtain⟨rfl,rfl⟩:=h;have f:∀y∈cells,({block:=at_.block,off:=y.1}:Addr)≠z:=λy C=>S _ (gL.2 ⟨y,C,rfl⟩)
 obtain⟨_,X⟩:=xN z v F f;rw[X];simp only[Y,if_false];rw[uW (b:=at_.block) ?_ cells c N f W]
 .simp only[Except.ok.injEq,Prod.mk.injEq,and_true]
  exact Ef
 .intro c N y C A
  revert A
  simp only[Fv C]
  repeat' split
  all_goals intro A
  all_goals first|(cases A;done)|(simp only[Except.ok.injEq]at A ⊢;rw[<-A,Fu C])
theorem rP{at_:Addr}{u:TypeId}{k:Addr}{atomic:Bool}{t:List Addr}(h:w.viewStore p at_ u k x atomic=.ok (w',t)):
 ∃c e f,w'={w with heap:=w.heap.setIfInBounds at_.block (.cells c e f)}:=by
 have y:∀{α:Type}(m:String),(MonadExcept.throw m:Except String α)=.error m:=λ_=>rfl
 unfold World.viewStore at h;simp only[bind,Except.bind,throw,throwThe,MonadExceptOf.throw,pure,Except.pure,y]at h
 split at h
 .cases h
 split at h
 .cases h
 split at h
 .split at h
  .cases h
  split at h
  .cases h
  simp only[Except.ok.injEq,Prod.mk.injEq]at h;exact⟨_,_,_,h.1.symm⟩
 .cases h
theorem g9.put{b r:Nat}(h:g9 w b){c:Array Value}{e:TypeId}{f:Nat×Nat}:g9 {w with heap:=w.heap.setIfInBounds r (.cells c e f)} b:=by
 by_cases x:r=b
 .subst x
  exact⟨c,e,f,Db h.lt⟩
 .obtain⟨c0,A,f0,y⟩:=h
  exact⟨c0,A,f0,(ku x).trans y⟩
theorem kG(w:aj)(a:Addr)(m:String):(∀v,w.noCell a m≠.panic v)/\w.noCell a m≠.goexit:=by
 unfold World.noCell
 constructor
 .intro v;split<;>exact λe=>by cases e
 .split<;>exact λe=>by cases e
def Nn{α:Type}(z:Addr)(v:Value):Result α->Result α
 |.ok a w=>.ok a (w.setCell z v)
 |.halt h w=>.halt h (w.setCell z v)
def PL{α:Type}:Result α->Prop
 |.ok _ _=>True
 |.halt h _=>(∃v,h=.panic v)\/h=.goexit
theorem grow{P:aI}{e:Event}:∀(s:Sem α)(w:aj)(es:Array Event),e∈es->e∈(s.runT P w es).2:=by
 intro s
 induction s with
 |pure a=>intro w es h;exact h
 |load m a k f=>
  intro w es h;unfold Sem.runT
  split
  .exact f _ _ _ (C9 _ h)
  .split
   .exact f _ _ _ (Array.mem_append_left _ h)
   .exact h
 |store m a x k f=>
  intro w es h;cases x
  all_goals (first|exact h|skip)
  all_goals
   simp only[Sem.runT]
   split
   .split
    .exact h
    .exact f _ _ (C9 _ h)
   .split
    .exact f _ _ (Array.mem_append_left _ h)
    .exact h
 |new o k f=>intro w es h;exact f _ _ _ h
 |shape r k f=>intro w es h;exact f _ _ _ h
 |freeze a n k f=>intro w es h;exact f _ _ h
 |frozen a k f=>intro w es h;exact f _ _ _ h
 |getObj r k f=>
  intro w es h;unfold Sem.runT
  split
  .exact h
  .exact f _ _ _ (C9 _ h)
  .exact h
 |setObj r o k f=>
  intro w es h;unfold Sem.runT
  split
  .exact h
  .exact f _ _ (C9 _ h)
  .exact h
 |choose q k f=>
  intro w es h;unfold Sem.runT
  split
  .exact f _ _ _ h
  .exact f _ _ _ h
 |sys c k f=>intro w es h;exact f _ _ _ (C9 _ h)
 |program k f=>intro w es h;exact f _ _ _ h
 |mark m k f=>intro w es h;exact f _ _ (C9 _ h)
 |halt h=>intro w es h;exact h
theorem FQ(w:aj)(o:Obj){z:Addr}(v:Value)(A:z.block<w.heap.size):({w.setCell z v with heap:=(w.setCell z v).heap.push o}:aj)=World.setCell {w with heap:=w.heap.push o} z v:=by
 refine fB (λr=>?_) rfl rfl rfl rfl;have y:(w.setCell z v).heap.size=w.heap.size:=by simp[World.setCell]
 rw[heap_set];dsimp only;rw[EF,EF,y,heap_set]
 by_cases f:r=w.heap.size
 .rw[ah f,ah f,af (by omega)]
 .rw[af f,af f]
theorem g9.push{w:aj}{b:Nat}(h:g9 w b)(o:Obj):g9 {w with heap:=w.heap.push o} b:=by
 have hl:=h.lt;obtain⟨c,e,f,x⟩:=h;exact⟨c,e,f,by dsimp only;rw[EF,af (by omega)];exact x⟩
theorem AJ(w:aj)(a:Addr)(n:Nat)(z:Addr)(v:Value):(w.setCell z v).freeze a n=(w.freeze a n).setCell z v:=by
 unfold World.freeze
 split
 .rfl
 refine fB (λr=>?_) rfl rfl rfl rfl;rw[heap_set];dsimp only;rw[rA,rA,heap_set]
 by_cases A:a.block=r<;>by_cases y:z.block=r<;>simp only[A,y,if_true,if_false]
 cases w.heap[r]? with
 |none=>rfl
 |some o=>
  cases o with
  |cells c e f=>obtain⟨lo,C⟩:=f;simp only[fy,mH]
  |_=>rfl
theorem g9.freeze{w:aj}{b:Nat}(h:g9 w b)(a:Addr)(n:Nat):g9 (w.freeze a n) b:=by
 obtain⟨c,e,f,x⟩:=h;unfold World.freeze
 split
 .exact⟨c,e,f,x⟩
 .obtain⟨lo,A⟩:=f
  by_cases y:a.block=b
  .exact⟨c,e,_,by dsimp only;rw[rA,ah y,x];rfl⟩
  .exact⟨c,e,(lo,A),by dsimp only;rw[rA,af y];exact x⟩
theorem KF(z:Addr)(v:Value):∀(x:Ask α)(w:aj),(w.setCell z v).ask x=((w.ask x).1,(w.ask x).2.setCell z v)/\(w.ask x).2.heap=w.heap:=by
 intro x
 induction x with
 |done a=>intro w;exact⟨rfl,rfl⟩
 |ask what range k f=>
  intro w;unfold World.ask;dsimp only
  split
  .exact f _ w
  .exact f _ {w with drawn:=w.drawn+1}
theorem IK(w:aj)(c:Sys)(z:Addr)(v:Value):(w.setCell z v).sys c=((w.sys c).1,(w.sys c).2.setCell z v)/\(w.sys c).2.heap=w.heap:=by
 obtain⟨y,f⟩:=KF z v (Kernel.perform c w.os) w;unfold World.sys;have:(w.setCell z v).os=w.os:=rfl;rw[this,y];generalize w.ask (Kernel.perform c w.os)=r at f ⊢;obtain⟨⟨r,os⟩,A⟩:=r;cases r<;>exact⟨rfl,by first|exact f|rfl⟩
theorem yN{a:Addr}{m:Bool}{t:List Addr}{z:Addr}(v:Value)(f:g9 w z.block)(h:w.farLoad p a m=.ok (x,t))(A:∀b∈t,b≠z):(w.setCell z v).farLoad p a m=.ok (x,t):=by
 unfold World.farLoad at h ⊢
 split at h
 .rename_i at_ u ho
  rw[(oy z v f ho (λ_ _ _ e=>by cases e)).2]
  split at h
  .rename_i r y
   cases h
   dsimp only;rw[vq z v y A]
  .cases h
 .cases h
theorem wA{a:Addr}{m:Bool}{t:List Addr}{z:Addr}(v:Value)(y:g9 w z.block)(h:w.farStore p a x m=.ok (w',t))(C:∀b∈t,b≠z):(w.setCell z v).farStore p a x m=.ok (w'.setCell z v,t)/\g9 w' z.block:=by
 unfold World.farStore at h ⊢
 split at h
 .rename_i at_ u ho
  rw[(oy z v y ho (λ_ _ _ e=>by cases e)).2]
  split at h
  .rename_i r A
   cases h
   dsimp only;rw[tK z v A C];obtain⟨c,e,f,rfl⟩:=rP A;exact⟨rfl,y.put⟩
  .cases h
 .cases h
theorem Kc{a:Addr}{m:Bool}{h:Halt}(f:w.farLoad p a m=.error h):¬PL (Result.halt h w':Result α):=by
 unfold World.farLoad at f
 split at f
 .split at f
  .cases f
  .cases f;rintro (⟨v,e⟩|e)<;>cases e
 .cases f;rintro (⟨v,e⟩|e)
  .exact(kG w a _).1 v e
  .exact(kG w a _).2 e
theorem Ht{a:Addr}{m:Bool}{h:Halt}(f:w.farStore p a x m=.error h):¬PL (Result.halt h w':Result α):=by
 unfold World.farStore at f
 split at f
 .split at f
  .cases f
  .cases f;rintro (⟨v,e⟩|e)<;>cases e
 .cases f;rintro (⟨v,e⟩|e)
  .exact(kG w a _).1 v e
  .exact(kG w a _).2 e
theorem run_set{P:aI}{z:Addr}(v:Value):∀(s:Sem α)(w:aj)(es:Array Event),g9 w z.block->PL (s.runT P w es).1->(∀e∈(s.runT P w es).2,e.loc≠.cell z)->
 s.runT P (w.setCell z v) es=(Nn z v (s.runT P w es).1,(s.runT P w es).2):=by
 intro s
 induction s with
 |pure a=>intro w es C f A;rfl
 |load m a k F=>
  intro w es C f A;unfold Sem.runT at f A ⊢;cases hc:w.cell? a with
  |some x=>
   simp only[hc]at f A ⊢;have S:a≠z:=λe=>A _ (grow (k x) _ _ (Array.mem_push_self ..)) (by rw[e])
   rw[qu _ _ _ _ (λe=>S e.symm),hc];exact F x _ _ C f A
  |none=>
   simp only[hc,u7 w a z v hc]at f A ⊢;cases G:w.farLoad P a (m==.atomic)with
   |error h=>simp only[G]at f;exact absurd f (Kc G)
   |ok r=>
    obtain⟨x,t⟩:=r;simp only[G]at f A ⊢;rw[yN v C G λb X e=>A _ (grow (k x) _ _ (Array.mem_append_right _ (Array.mem_map.2 ⟨b,by simpa using X,rfl⟩))) (by rw[e])];exact F x _ _ C f A
 |store m a x k F=>
  intro w es C f A;cases x
  all_goals (first|rfl|skip)
  all_goals
   simp only[Sem.runT]at f A ⊢;cases hc:w.cell? a with
   |some y=>
    simp only[hc]at f A ⊢
    by_cases I:w.frozen? a=true
    .rw[ah I]at f;exact absurd f (by rintro (⟨v,e⟩|e)<;>cases e)
    rw[af I]at f A;have S:a≠z:=λe=>A _ (grow k _ _ (Array.mem_push_self ..)) (by rw[e])
    rw[qu _ _ _ _ (λe=>S e.symm),hc];simp only[rB,I,if_false];rw[vJ w _ v S];exact F _ _ (C.set a _) f A
   |none=>
    simp only[hc,u7 w a z v hc]at f A ⊢
    split at f
    .rename_i w1 t G
     simp only[G]at A ⊢;obtain⟨N,Y⟩:=wA v C G λb X e=>A _ (grow k _ _ (Array.mem_append_right _ (Array.mem_map.2 ⟨b,by simpa using X,rfl⟩))) (by rw[e])
     rw[N];exact F _ _ Y f A
    .rename_i h G
     exact absurd f (Ht G)
 |new o k F=>
  intro w es C f A;simp only[Sem.runT]at f A ⊢;have H:(w.setCell z v).heap.size=w.heap.size:=by simp[World.setCell]
  rw[FQ w o v C.lt,H];exact F _ _ _ (C.push o) f A
 |shape r k F=>
  intro w es C f A;simp only[Sem.runT,Dl]at f A ⊢;exact F _ _ _ C f A
 |freeze a n k F=>
  intro w es C f A;simp only[Sem.runT,AJ]at f A ⊢;exact F _ _ (C.freeze a n) f A
 |frozen a k F=>
  intro w es C f A;simp only[Sem.runT,rB]at f A ⊢;exact F _ _ _ C f A
 |getObj r k F=>
  intro w es C f A;unfold Sem.runT at f A ⊢;cases ho:w.heap[r]? with
  |none=>simp only[ho]at f;exact absurd f (by rintro (⟨v,e⟩|e)<;>cases e)
  |some o=>
   cases o
   case cells=>simp only[ho]at f;exact absurd f (by rintro (⟨v,e⟩|e)<;>cases e)
   all_goals
    rw[(oy z v C ho (λ_ _ _ e=>by cases e)).2];simp only[ho]at f A ⊢;exact F _ _ _ C f A
 |setObj r o k F=>
  intro w es C f A;unfold Sem.runT at f A ⊢;cases ho:w.heap[r]? with
  |none=>simp only[ho]at f;exact absurd f (by rintro (⟨v,e⟩|e)<;>cases e)
  |some o1=>
   cases o1
   case cells=>simp only[ho]at f;exact absurd f (by rintro (⟨v,e⟩|e)<;>cases e)
   all_goals
    obtain⟨R,W⟩:=oy z v C ho (λ_ _ _ e=>by cases e);rw[W];simp only[ho]at f A ⊢
    have hw:({w.setCell z v with heap:=(w.setCell z v).heap.setIfInBounds r o}:aj)=World.setCell {w with heap:=w.heap.setIfInBounds r o} z v:=by
     refine fB (λi=>?_) rfl rfl rfl rfl;have H:(w.setCell z v).heap.size=w.heap.size:=by simp[World.setCell]
     rw[heap_set];dsimp only;rw[zF,zF,heap_set,H]
     by_cases N:r=i
     .subst N;simp only[if_true,af R]
     .rw[af N,af N]
    rw[hw];refine F _ _ ?_ f A;obtain⟨c0,e0,f0,Z⟩:=C;exact⟨c0,e0,f0,(ku (λe=>R e.symm)).trans Z⟩
 |choose q k F=>
  intro w es C f A;unfold Sem.runT at f A ⊢
  by_cases h:q.forced=true
  .simp only[h,if_true]at f A ⊢
   exact F _ _ _ C f A
  .simp only[h,if_false,tG]at f A ⊢
   exact F _ {w with drawn:=w.drawn+1} _ C f A
 |sys c k F=>
  intro w es C f A;unfold Sem.runT at f A ⊢;obtain⟨N,Y⟩:=IK w c z v;rw[N];refine F _ _ _ ?_ f A;obtain⟨c0,e0,f0,Z⟩:=C;exact⟨c0,e0,f0,by rw[Y];exact Z⟩
 |program k F=>
  intro w es C f A;simp only[Sem.runT]at f A ⊢;exact F _ _ _ C f A
 |mark m k F=>
  intro w es C f A;simp only[Sem.runT]at f A ⊢;exact F _ _ C f A
 |halt h=>intro w es C f A;rfl
def H9(D:World->World->Array Event->Prop)(z:Addr):Prop:=∀w w' es,D w w' es->∀e∈es,e.loc≠.cell z
def KW(P:aI)(main:Bool)(D:World->World->Array Event->Prop)(Ψ:gi)(g:aW)(w:aj):Prop:=
 ∃g' w' es,stepG P main g w=.go g' w' es/\D w w' es/\Ψ g' w'/\∀z v,H9 D z->g9 w z.block->stepG P main g (w.setCell z v)=.go g' (w'.setCell z v) es
theorem KW.mono{P:aI}{f:gi}(h:KW P main D Ψ g w)(y:∀g w,Ψ g w->f g w):KW P main D f g w:=by
 obtain⟨g',w',es,G,F,C,A⟩:=h;exact⟨g',w',es,G,F,y _ _ C,A⟩
structure aC(P:aI)(main:Bool)(D:World->World->Array Event->Prop)(Ψ:gi):Prop where
 at':∀g w d,Ψ g w->Ψ g (w.at d)
 idle:∀w d,D w (w.at d) #[]
 less:∀w w' es VB,D w w' es->(∀e∈VB,e∈es)->D w w' VB
 step:∀g w,g.status=.running->(∀d,KW P main D Ψ g (w.at d))->Ψ g w
def raw(P:aI)(a:Act)(o:Oper)(w:aj):Array Event:=(execOp a.eval o).events P w #[]
theorem mem_listed{P:aI}{a:Act}{e:Event}(h:e∈raw P a o w):e∈(execOp a.eval o).events P w #[]:=h
theorem sj{P:aI}{a:Act}{x:Next}{z:Addr}(v:Value)(f:(execOp a.eval o).run P w=.ok x w')(A:∀e∈raw P a o w,e.loc≠.cell z)(y:g9 w z.block):
 (execOp a.eval o).run P (w.setCell z v)=.ok x (w'.setCell z v)/\raw P a o (w.setCell z v)=raw P a o w:=by
 have h:=run_set v (execOp a.eval o) w #[] y (by rw[fu,f];trivial) A
 constructor
 .rw[<-fu (es:=#[]),h,fu,f];rfl
 .unfold raw Sem.events;rw[h]
section
variable{P:aI}{a:Act}{k:eF}
theorem aC.ctl(F:aC P main D Ψ){A f:aE}{y:cW}(h:∀w,stepG P main (G A cs) w=.go (G f y) w #[])(hk:Ψ (G f y) w):Ψ (G A cs) w:=
 F.step _ _ rfl λ_=>⟨_,_,_,h _,F.idle _ _,F.at' _ _ _ hk,λ_ _ _ _=>h _⟩
theorem sB{e:Event}{fn:FuncId}(h:e∈listed P fn a o w):e∈raw P a o w:=ME h
theorem aC.ZD(F:aC P main D Ψ)(ho:E[i]? =some o)(C:Region.wanted o (yielded E a.tmps)=true)(hk:b.kind≠.early)(h:∀d,∀K:Act->World->Prop,(∀a' w',D (w.at d) w' (raw P a o (w.at d))/\Ψ (G (b.at a' (.inRegion E rest::k)) cs) w'->K a' w')->uponK o a K ((execOp a.eval o).run P (w.at d))):
 Ψ (G (b.at a (.inRegion E (i::rest)::k)) cs) w:=
 F.step _ _ rfl λd=>by
  have f:=h d (λa' W=>D (w.at d) W (raw P a o (w.at d))/\Ψ (G (b.at a' (.inRegion E rest::k)) cs) W) λa' w' x=>x
  cases y:(execOp a.eval o).run P (w.at d)with
  |halt _ _=>rw[y]at f;exact f.elim
  |ok x S=>
   rw[y]at f;cases x
   case value v=>
    refine⟨_,_,_,stepG_value ho C hk y,F.less _ _ _ _ f.1 λe I=>sB I,f.2,λz v H N=>?_⟩;obtain⟨R,A⟩:=sj v y (H _ _ _ f.1) N;rw[stepG_value ho C hk R];unfold listed;unfold raw at A;rw[A]
   case skip=>
    refine⟨_,_,_,stepG_none ho C hk y,F.less _ _ _ _ f.1 λe I=>sB I,f.2,λz v H N=>?_⟩;obtain⟨R,A⟩:=sj v y (H _ _ _ f.1) N;rw[stepG_none ho C hk R];unfold listed;unfold raw at A;rw[A]
   all_goals exact f.elim
theorem aC.op(F:aC P main D Ψ)(ho:E[i]? =some o)(f:Region.wanted o (yielded E a.tmps)=true)(hk:b.kind≠.early)(h:∀d,∀K:Act->World->Prop,(∀a' w',D (w.at d) (w'.at d) (raw P a o (w.at d))/\Ψ (G (b.at a' (.inRegion E rest::k)) cs) w'->K a' (w'.at d))->uponK o a K ((execOp a.eval o).run P (w.at d))):
 Ψ (G (b.at a (.inRegion E (i::rest)::k)) cs) w:=
 F.ZD ho f hk λd K y=>h d K λa' w' x=>y a' _ ⟨x.1,F.at' _ _ _ x.2⟩
theorem aC.Ac(F:aC P main D Ψ)(ho:E[i]? =some o)(f:Region.wanted o (yielded E a.tmps)=true)(hk:b.kind≠.early)(y:∀d,(execOp a.eval o).events P (w.at d) #[]=#[])(h:∀d,∀K:Act->World->Prop,(∀a',Ψ (G (b.at a' (.inRegion E rest::k)) cs) w->K a' (w.at d))->uponK o a K ((execOp a.eval o).run P (w.at d))):
 Ψ (G (b.at a (.inRegion E (i::rest)::k)) cs) w:=
 F.op ho f hk λd K A=>h d K λa' x=>A a' w ⟨by unfold raw;rw[y d];exact F.idle _ _,x⟩
theorem aC.unwanted(F:aC P main D Ψ)(ho:E[i]? =some o)(f:Region.wanted o (yielded E a.tmps)=false)(h:Ψ (G (b.at (a.put o.dst undef) (.inRegion E rest::k)) cs) w):Ψ (G (b.at a (.inRegion E (i::rest)::k)) cs) w:=
 F.ctl (λ_=>stepG_unwanted ho f) h
def late(b:aE):Bool:=match b.kind with|.early=>false|_=>true
theorem pK(h:late b=true):b.kind≠.early:=λz=>by rw[late,z]at h;cases h
theorem aC.oq(F:aC P main D Ψ)(ho:E[i]? =some o)(f:Region.wanted o (yielded E a.tmps)=true)(hk:late b=true)(y:∀d,(execOp a.eval o).events P (w.at d) #[]=#[])(h:∀d,∀K:Act->World->Prop,(∀a',Ψ (G (b.at a' (.inRegion E rest::k)) cs) w->K a' (w.at d))->uponK o a K ((execOp a.eval o).run P (w.at d))):
 Ψ (G (b.at a (.inRegion E (i::rest)::k)) cs) w:=F.Ac ho f (pK hk) y h
theorem aC.aF(F:aC P main D Ψ){A:Act}(y:Ψ (G (b.at A (.inRegion E rest::k)) cs) w)(ho:E[i]? =some o:=by exact rfl)(f:Region.wanted o (yielded E a.tmps)=true:=by exact rfl)(hk:late b=true:=by exact rfl)(C:∀d,(execOp a.eval o).events P (w.at d) #[]=#[]:=by simp[go_sem])(h:∀d,∀K:Act->World->Prop,K A (w.at d)->uponK o a K ((execOp a.eval o).run P (w.at d)):=by intro d K h;go_simp;exact h):
 Ψ (G (b.at a (.inRegion E (i::rest)::k)) cs) w:=F.oq ho f hk C λd K H=>h d K (H A y)
theorem aC.cU(F:aC P main D Ψ)(h:Ψ (G (b.at (a.put o.dst undef) (.inRegion E rest::k)) cs) w)(ho:E[i]? =some o:=by exact rfl)(f:Region.wanted o (yielded E a.tmps)=false:=by exact rfl):Ψ (G (b.at a (.inRegion E (i::rest)::k)) cs) w:=F.unwanted ho f h
theorem oP:(∀l:List Value,l.toArray.size=l.length)/\(∀(a:Value)(l:List Value),(a::l).length=l.length+1)/\([]:List Value).length=0/\(∀(n:Nat)(a:Value),Array.replicate (n+1) a=(Array.replicate n a).push a)/\(∀a:Value,Array.replicate 0 a=#[])/\(∀(l:List Value)(a:Value),l.toArray.push a=(l++[a]).toArray)/\(∀l k:List Value,l.toArray++k.toArray=(l++k).toArray)/\(∀l:List Value,[]++l=l)/\(∀(a:Value)(l k:List Value),a::l++k=a::(l++k)):=
 ⟨λ_=>by simp,λ_ _=>rfl,rfl,λ_ _=>Array.replicate_succ,λ_=>rfl,λ_ _=>by simp,λ_ _=>by simp,λ_=>rfl,λ_ _ _=>rfl⟩
def rg:List Oper->Nat->List Nat
 |[],_=>[]
 |_::l,n=>n::rg l (n+1)
theorem xU(l:List Oper):List.range l.toArray.size=rg l 0:=by
 have h:∀(l:List Oper)(n:Nat),rg l n=List.range' n l.length:=by
  intro l
  induction l with
  |nil=>intro n;rfl
  |cons x l f=>intro n;simp[rg,f,List.range'_succ]
 rw[h,List.range_eq_range']
 simp
theorem no{x:Bool}{p:Prop}(h:x=false)(f:x=true):p:=by rw[h]at f;cases f
theorem dz{x y:Bool}(h:x=true->y=true)(f:y=false):x=false:=by
 cases A:x with
 |false=>rfl
 |true=>have:=h A;rw[f]at this;cases this
theorem aC.re(F:aC P main D Ψ)(h:Ψ (G (b.at a (k)) cs) w):Ψ (G (b.at a (.inRegion E []::k)) cs) w:=F.ctl (λ_=>stepG_region_end) h
theorem aC.sq(F:aC P main D Ψ){x y:Code}(h:Ψ (G (b.at a (.code x::.code y::k)) cs) w):Ψ (G (b.at a (.code (.seq x y)::k)) cs) w:=F.ctl (λ_=>stepG_seq) h
theorem aC.rr(F:aC P main D Ψ){id:Nat}(h:Ψ (G (b.at a (.inRegion l.toArray (rg l 0)::k)) cs) w):Ψ (G (b.at a (.code (.region id l.toArray false)::k)) cs) w:=F.ctl (λ_=>stepG_region) (by rw[xU];exact h)
theorem aC.sr(F:aC P main D Ψ){id:Nat}{y:Code}(h:Ψ (G (b.at a (.inRegion l.toArray (rg l 0)::.code y::k)) cs) w):Ψ (G (b.at a (.code (.seq (.region id l.toArray false) y)::k)) cs) w:=F.sq (F.rr h)
theorem aC.es(F:aC P main D Ψ){x y:Code}(h:Ψ (G (b.at a (.code x::.code y::k)) cs) w):Ψ (G (b.at a (.inRegion E []::.code (.seq x y)::k)) cs) w:=F.re (F.sq h)
theorem aC.er(F:aC P main D Ψ){id:Nat}(h:Ψ (G (b.at a (.inRegion l.toArray (rg l 0)::k)) cs) w):Ψ (G (b.at a (.inRegion E []::.code (.region id l.toArray false)::k)) cs) w:=F.re (F.rr h)
theorem aC.YG(F:aC P main D Ψ){id:Nat}{y:Code}(h:Ψ (G (b.at a (.inRegion l.toArray (rg l 0)::.code y::k)) cs) w):Ψ (G (b.at a (.inRegion E []::.code (.seq (.region id l.toArray false) y)::k)) cs) w:=F.re (F.sr h)
theorem aC.zW(F:aC P main D Ψ){id:Nat}(h:Ψ (G (b.at a (.inRegion l.toArray r::k)) cs) w)(f:rg l 0=r:=by simp only[rg,Nat.reduceAdd];exact rfl):Ψ (G (b.at a (.code (.region id l.toArray false)::k)) cs) w:=F.rr (f▸h)
theorem aC.cw(F:aC P main D Ψ){id:Nat}{y:Code}(h:Ψ (G (b.at a (.inRegion l.toArray r::.code y::k)) cs) w)(f:rg l 0=r:=by simp only[rg,Nat.reduceAdd];exact rfl):Ψ (G (b.at a (.code (.seq (.region id l.toArray false) y)::k)) cs) w:=F.sr (f▸h)
theorem aC.D3(F:aC P main D Ψ){id:Nat}(h:Ψ (G (b.at a (.inRegion l.toArray r::k)) cs) w)(f:rg l 0=r:=by simp only[rg,Nat.reduceAdd];exact rfl):Ψ (G (b.at a (.inRegion E []::.code (.region id l.toArray false)::k)) cs) w:=F.er (f▸h)
theorem aC.dh(F:aC P main D Ψ){id:Nat}{y:Code}(h:Ψ (G (b.at a (.inRegion l.toArray r::.code y::k)) cs) w)(f:rg l 0=r:=by simp only[rg,Nat.reduceAdd];exact rfl):Ψ (G (b.at a (.inRegion E []::.code (.seq (.region id l.toArray false) y)::k)) cs) w:=F.YG (f▸h)
theorem aC.cf(F:aC P main D Ψ){c:Operand}{x y:Code}(e:a.eval c=.bool false)(h:Ψ (G (b.at a (.code y::k)) cs) w):Ψ (G (b.at a (.code (.cond c x y)::k)) cs) w:=F.ctl (λ_=>stepG_cond (t:=false) e) h
theorem aC.ct(F:aC P main D Ψ){c:Operand}{x y:Code}(e:a.eval c=.bool true)(h:Ψ (G (b.at a (.code x::k)) cs) w):Ψ (G (b.at a (.code (.cond c x y)::k)) cs) w:=F.ctl (λ_=>stepG_cond (t:=true) e) h
theorem aC.sk(F:aC P main D Ψ)(h:Ψ (G (b.at a (k)) cs) w):Ψ (G (b.at a (.code .skip::k)) cs) w:=F.ctl (λ_=>stepG_skip) h
theorem aC.bl(F:aC P main D Ψ){id:Nat}{c:Code}(h:Ψ (G (b.at a (.code c::.inBlock id::k)) cs) w):Ψ (G (b.at a (.code (.block id c)::k)) cs) w:=F.ctl (λ_=>stepG_block) h
theorem aC.ib(F:aC P main D Ψ){id:Nat}(h:Ψ (G (b.at a (k)) cs) w):Ψ (G (b.at a (.inBlock id::k)) cs) w:=F.ctl (λ_=>stepG_inBlock) h
def eC(P:aI)(main:Bool)(D:World->World->Array Event->Prop)(f:FuncId)(args:Array Value)(w:aj)(Post:qG):Prop:=
 ∀Ψ,aC P main D Ψ->∀c cs,(∀v w',Post v w'->Ψ (G (c.finish v) cs) w')->Ψ (G (Frame.enter P f args .normal) (c::cs)) w
theorem eC.mono{f:FuncId}{Post y:qG}(h:eC P main D f args w Post)(A:∀v w',Post v w'->y v w'):eC P main D f args w y:=
 λΨ F c cs hc=>h Ψ F c cs λv w' x=>hc v w' (A v w' x)
theorem aC.enter(F:aC P main D Ψ){f:FuncId}(ho:E[i]? =some o)(C:Region.wanted o (yielded E a.tmps)=true)(hk:b.kind≠.early)(H:∀d,(execOp a.eval o).run P (w.at d)=.ok (.enter f args) (w.at d))(A:∀d,(execOp a.eval o).events P (w.at d) #[]=#[])(h:Ψ (G (Frame.enter P f args .normal) (b.at a (.inRegion E (i::rest)::k)::cs)) w):Ψ (G (b.at a (.inRegion E (i::rest)::k)) cs) w:=
 F.step _ _ rfl λd=>⟨_,w.at d,_,by rw[stepG_enter ho C hk (H d),listed_nil (A d)],F.idle _ _,F.at' _ _ _ h,λz v _ I=>by
  obtain⟨R,N⟩:=sj (z:=z) v (H d) (λe y=>by unfold raw at y;rw[A d]at y;simp at y) I;rw[stepG_enter ho C hk R,listed_nil (N.trans (A d))]⟩
theorem aC.bJ(F:aC P main D Ψ){fn:Func}{todo:eF}{c:aE}(y:b.kind=.normal)(C:a.defers=[])(A:P.funcs[b.fn]? =some fn)(f:ResultsC P fn a.tmps v)(h:Ψ (G (c.finish v) cs) w):Ψ (G {b.at a todo with mode:=.returning} (c::cs)) w:=
 F.step _ _ rfl λ_=>⟨_,_,_,stepG_leave y C A (f _).1 (f _).2,F.idle _ _,F.at' _ _ _ h,λ_ _ _ _=>stepG_leave y C A (f _).1 (f _).2⟩
end
theorem ck:∀(l:List Bool)(i:Nat)(h:i<l.length),l[i]=false->((l.set i true).filter id).length=(l.filter id).length+1
 |x::xs,0,_,h=>by
  have:x=false:=h;subst this
  simp
 |x::xs,i+1,h,y=>by
  have f:=ck xs i (by simpa using h) (by simpa using y);cases x<;>simp[f]
section
variable{P:aI}{k:eF}
theorem BX(md:Region.Mode)(l:Array Bool)(h:∀j,j<E.size->l.getD j true=true)(fuel t:Nat):Region.linearise.go md E fuel t l []=[]:=by
 cases fuel with
 |zero=>simp[Region.linearise.go]
 |succ fuel=>
  have f:((List.range E.size).filter λi=>!l.getD i true&&((E[i]?).map (·.after.all λe=>!Region.binds md e||l.getD e.on false)).getD false)=[]:=by
   rw[List.filter_eq_nil_iff];intro j hj;rw[h j (bp.1 hj)]
   simp
  simp only[Region.linearise.go,f]
  simp
theorem Kk(md:Region.Mode)(I:Array Bool->Act->World->Prop)(Z:∀(i:Nat)(o:Oper),E[i]? =some o->∀e∈o.after,Region.binds md e=true->e.on<i)(A:∀l a w,I l a w->l.size=E.size)(R:∀(l:Array Bool)(a:Act)(w:aj)(i:Nat)(o:Oper),I l a w->E[i]? =some o->l.getD i true=false->(∀e∈o.after,Region.binds md e=true->l.getD e.on false=true)->∀rest,((∀j,j<E.size->j≠i->l.getD j true=true)->rest=[])->
 (∀a' w',I (l.setIfInBounds i true) a' w'->Ψ (G (b.at a' (.inRegion E rest::k)) cs) w')->Ψ (G (b.at a (.inRegion E (i::rest)::k)) cs) w)(N:∀l a w,I l a w->(∀i,i<E.size->l.getD i true=true)->Ψ (G (b.at a (.inRegion E []::k)) cs) w):
 ∀(fuel t:Nat)(l:Array Bool)(a:Act)(w:aj),I l a w->(∃m,m+fuel=E.size/\(l.toList.filter id).length=m)->Ψ (G (b.at a (.inRegion E (Region.linearise.go md E fuel t l [])::k)) cs) w:=by
 intro fuel
 have Aw:∀l a w,I l a w->((List.range E.size).filter λi=>!l.getD i true&&((E[i]?).map (·.after.all λe=>!Region.binds md e||l.getD e.on false)).getD false)=[]->∀i,i<E.size->l.getD i true=true:=by
  intro l a w C hr i
  induction i using Nat.strongRecOn with
  |_ i ih=>
   intro F
   by_cases h:l.getD i true=true
   .exact h
   have y:i∈((List.range E.size).filter λi=>!l.getD i true&&((E[i]?).map (·.after.all λe=>!Region.binds md e||l.getD e.on false)).getD false):=by
    refine mO.2 ⟨bp.2 F,?_⟩;have h0:l.getD i true=false:=by simpa using h
    have ho:E[i]? =some E[i]:=hU F;simp only[h0,Bool.not_false,Bool.true_and,ho,fy,cK,zC];intro e he;cases wY:Region.binds md e with
    |false=>simp
    |true=>
    have f:=Z i _ ho e he wY;have h1:=ih e.on f (Nat.lt_trans f F);have hl:e.on<l.size:=by rw[A l a w C];exact Nat.lt_trans f F
    have h2:l.getD e.on false=true:=by
     simp only[Array.getD,hl,mM]at h1 ⊢;exact h1
    simp[h2]
   rw[hr]at y;cases y
 induction fuel with
 |zero=>
  intro t l a w C ⟨m,hm,hc⟩;simp only[Region.linearise.go,List.reverse_nil];refine N l a w C λi F=>?_
  have hls:l.toList.length=E.size:=by rw[xp];exact A l a w C
  have W:(l.toList.filter id).length=l.toList.length:=by omega
  have:=VJ.1 W;have Ep:i<l.size:=by rw[A l a w C];exact F
  have h3:=this l[i] (by simp);simp only[Array.getD,Ep,mM]
  simpa using h3
 |succ fuel ih=>
  intro t l a w C ⟨m,hm,hc⟩;simp only[Region.linearise.go];generalize X:((List.range E.size).filter λi=>!l.getD i true&&((E[i]?).map (·.after.all λe=>!Region.binds md e||l.getD e.on false)).getD false)=rs;cases F:rs[t % rs.length]? with
  |none=>
   have Y:rs=[]:=by
    cases rs with
    |nil=>rfl
    |cons x xs=>
     have f:t % (x::xs).length<(x::xs).length:=Nat.mod_lt _ (by simp);rw[oY f]at F;cases F
   simp only[List.reverse_nil];exact N l a w C (Aw l a w C (X.trans Y))
  |some i=>
   have y:i∈rs:=tH F;rw[<-X]at y;obtain⟨hr,hf⟩:=mO.1 y;have f:i<E.size:=bp.1 hr;have ho:E[i]? =some E[i]:=hU f;simp only[ho,fy,cK,cq,mF,zC]at hf
   simp only
   rw[linearise_go_acc,ML,MI];refine R l a w i E[i] C ho hf.1 (λe he hb=>?_) _ (λhre=>BX md _ (λj hj=>?_) _ _) λa' w' Io=>?_
   .have:=hf.2 e he
    simpa [hb]using this
   .have H:i<l.size:=by rw[A l a w C];exact f
    have Xw:j<l.size:=by rw[A l a w C];exact hj
    by_cases S:j=i
    .subst S;simp[Array.getD,H]
    .have:=hre j hj S
     rw[o9]at this ⊢;rw[ku (λz=>S z.symm)];exact this
   .refine ih _ _ _ _ Io ⟨m+1,by omega,?_⟩
    have H:i<l.size:=by rw[A l a w C];exact f
    have h0:l[i]=false:=by have:=hf.1;simpa [Array.getD,H]using this
    rw[zE];exact hc▸ck l.toList i H h0
end
theorem aC.draw{P:aI}{k:eF}{id:Nat}{a:Act}(F:aC P main D Ψ)(H:P.follows .mixedOrders=true)(I:Array Bool->Act->World->Prop)(y:∀(i:Nat)(o:Oper),E[i]? =some o->∀e∈o.after,Region.binds .any e=true->e.on<i)(C:∀l a w,I l a w->l.size=E.size)(N:I (Array.replicate E.size false) a w)(f:∀(l:Array Bool)(a:Act)(w:aj)(i:Nat)(o:Oper),I l a w->E[i]? =some o->l.getD i true=false->(∀e∈o.after,Region.binds .any e=true->l.getD e.on false=true)->∀rest,((∀j,j<E.size->j≠i->l.getD j true=true)->rest=[])->
 (∀a' w',I (l.setIfInBounds i true) a' w'->Ψ (G (b.at a' (.inRegion E rest::k)) cs) w')->Ψ (G (b.at a (.inRegion E (i::rest)::k)) cs) w)(A:∀l a w,I l a w->(∀i,i<E.size->l.getD i true=true)->Ψ (G (b.at a (.inRegion E []::k)) cs) w):
 Ψ (G (b.at a (.code (.region id E true)::k)) cs) w:=by
 refine F.step _ _ rfl λd=>⟨_,_,_,stepG_region_draw,F.idle _ _,?_,λz v _ _=>stepG_region_draw⟩
 show Ψ _ (w.at (d+1))
 refine F.at' _ _ _ ?_;simp only[Region.schedule,H,uv,if_true,Region.linearise];exact Kk .any I y C f A _ _ _ _ _ N ⟨0,by simp,by simp⟩
def Ir(Ok:Addr->Bool->Prop)(w':aj)(e:Event):Prop:=(∃a:Addr,e.loc=.cell a/\e.sync=e.sync/\Ok a e.write/\a.block<w'.heap.size)\/e=noRoomEvent
structure DX(Ok:Addr->Bool->Prop)(w w':aj)(es:Array Event):Prop where
 ev:∀e∈es,Ir Ok w' e
 size:w.heap.size<=w'.heap.size
 obj:∀(c:Nat)(o:Obj),w.heap[c]? =some o->(∀cs t f,o≠Obj.cells cs t f)->w'.heap[c]? =some o
 cell:∀a:Addr,¬Ok a true->a.block<w.heap.size->w'.cell? a=w.cell? a/\w'.frozen? a=w.frozen? a
 blk:∀k:Nat,k<w.heap.size->(∀a:Addr,a.block=k->¬Ok a true)->w'.heap[k]? =w.heap[k]?
 rest:w'.os=w.os/\w'.tape=w.tape/\w'.output=w.output
section
variable{es:Array Event}
theorem DX.idle(w:aj)(d:Nat):DX Ok w (w.at d) #[]:=⟨by simp,az _,λ_ _ h _=>h,λ_ _ _=>⟨rfl,rfl⟩,λ_ _ _=>rfl,rfl,rfl,rfl⟩
theorem DX.less{f:Array Event}(h:DX Ok w w' es)(y:∀e∈f,e∈es):DX Ok w w' f:=⟨λe A=>h.ev e (y e A),h.size,h.obj,h.cell,h.blk,h.rest⟩
theorem wE:∀w w' es f,DX Ok w w' es->(∀e∈f,e∈es)->DX Ok w w' f:=λ_ _ _ _ h y=>h.less y
theorem DX.still(d:Nat)(h:∀e∈es,Ir Ok (w.at d) e):DX Ok (w.at d) (w.at d) es:=⟨h,az _,λ_ _ h _=>h,λ_ _ _=>⟨rfl,rfl⟩,λ_ _ _=>rfl,rfl,rfl,rfl⟩
theorem au{a:Addr}(h:w.cell? a=some v):a.block<w.heap.size:=by
 unfold World.cell? at h
 split at h
 .rename_i f;exact(cH.1 f).1
 .cases h
theorem DX.set{a:Addr}(d:Nat)(ok:Ok a true)(h:∀e∈es,Ir Ok ((w.setCell a v).at d) e):DX Ok (w.at d) ((w.setCell a v).at d) es:=by
 refine⟨h,by show w.heap.size<=(w.setCell a v).heap.size;simp[World.setCell],λc o ho A=>?_,λx C F=>?_,λk hk A=>Below.heap_setCell w a v k (λe=>A a e.symm ok),rfl,rfl,rfl⟩
 .show(w.setCell a v).heap[c]? =some o
  have f:w.heap[c]? =some o:=ho;simp only[World.setCell,rA,f]
  split
  .cases o<;>first|rfl|exact absurd rfl (A _ _ _)
  .rfl
 .have y:a≠x:=λe=>C (e▸ok)
  exact⟨qu _ _ _ _ y,rB _ _ _ _⟩
theorem DX.alloc(d:Nat)(o:Obj)(h:∀e∈es,Ir Ok ((w.alloc o).at d) e):DX Ok (w.at d) ((w.alloc o).at d) es:=by
 refine⟨h,by show w.heap.size<=(w.alloc o).heap.size;simp,λc x C _=>?_,λx _ A=>?_,λk hk _=>Below.heap_alloc w o k hk,rfl,rfl,rfl⟩
 .have y:w.heap[c]? =some x:=C
  show(w.alloc o).heap[c]? =some x
  rw[Below.heap_alloc _ _ _ ((cH.1 y).1)];exact y
 .have f:x.block<w.heap.size:=A
  exact⟨Iv _ _ _ f,World.frozen?_alloc_past _ _ _ f⟩
end
theorem aC.ol{P:aI}{a:Act}{k:eF}(F:aC P main (DX Ok) Ψ)(ho:E[i]? =some o)(f:Region.wanted o (yielded E a.tmps)=true)(hk:late b=true)(h:∀d,∀K:Act->World->Prop,(∀a',(∀e∈(execOp a.eval o).events P (w.at d) #[],Ir Ok (w.at d) e)->Ψ (G (b.at a' (.inRegion E rest::k)) cs) w->K a' (w.at d))->uponK o a K ((execOp a.eval o).run P (w.at d))):
 Ψ (G (b.at a (.inRegion E (i::rest)::k)) cs) w:=
 F.op ho f (pK hk) λd K C=>h d K λa' A x=>C a' w ⟨DX.still _ λe y=>A e (mem_listed y),x⟩
theorem jB{a:Addr}{wr f:Bool}(h:w.cell? a=some v)(ok:Ok a wr):Ir Ok (w.at d) ⟨.cell a,wr,f⟩:=.inl ⟨a,rfl,rfl,ok,au h⟩
def Acc(Shun:dr)(h:Nat)(t:Trace)(i:Nat):Prop:=
 i<t.size/\(Knows t h i\/∃a,touchAt t i=some a/\a.kind=.atomic/\Shun a.loc/\¬t.heard i)/\∀a,touchAt t i=some a->Shun a.loc->a.kind≠.plain/\(a.kind=.said->t.g? i=some 0)
section
variable{Shun:dr}{B:Nat}{t:Trace}
theorem Acc.app{i:Nat}(H:Acc Shun h t i)(u:Trace):Acc Shun h (t++u) i:=by
 obtain⟨f,hk,I⟩:=H;refine⟨by simp;omega,hk.imp (Knows.app u) fun⟨a,y,F,C,A⟩=>⟨a,by rw[touchAt_old f];exact y,F,C,λz=>A ((heard_old f).1 z)⟩,λa y G=>?_⟩;rw[touchAt_old f]at y;rw[g?_old f];exact I a y G
theorem Acc.to(H:Acc Shun h t i)(hk:Knows t h i->Knows (t++u) j i):Acc Shun j (t++u) i:=by
 obtain⟨f,A,N⟩:=H;refine⟨by simp;omega,A.imp hk fun⟨a,y,G,F,C⟩=>⟨a,by rw[touchAt_old f];exact y,G,F,λz=>C ((heard_old f).1 z)⟩,λa y I=>?_⟩;rw[touchAt_old f]at y;rw[g?_old f];exact N a y I
def wQ(Shun Still:dr)(B h:Nat)(e:Event):Prop:=
 (∀x,(MemAct.ofEvent e).touch? =some x->(Still x.loc->x.write=false)/\(Shun x.loc->x.kind≠.plain/\(x.kind=.said->h=0)))/\(MemAct.ofEvent e).low B
theorem FT(H:PastG Still Mem L B (Acc Shun h t) t){fn:FuncId}{pos:String}{es:Array Event}(W:∀e∈es,wQ Shun Still B h e)(hd:Mem h->deafBehind (Deaf t h) es=Deaf t h):
 PastG Still Mem L B (Acc Shun h (t++MemOp.ofEvents h fn pos es)) (t++MemOp.ofEvents h fn pos es):=by
 have Y:∀op∈MemOp.ofEvents h fn pos es,op.g=h:=λop f=>by obtain⟨e,_,rfl⟩:=Go.Conc.mem_ofEvents f;rfl
 have F:∀op∈MemOp.ofEvents h fn pos es,∀b,op.act.touch? =some b->(Still b.loc->b.write=false)/\(Shun b.loc->b.kind≠.plain/\(b.kind=.said->h=0)):=λop f b Z=>by
  obtain⟨e,he,rfl⟩:=Go.Conc.mem_ofEvents f;exact(W e he).1 b Z
 refine⟨λsaid=>noRace_append (H.clean said) Y λi a N op f b Z hc=>?_,λi a N hm=>?_,λi a N S hS g I=>?_,λg I=>?_,λop f=>?_⟩
 .obtain⟨e1,e2,e3,e4⟩:=hc
  rcases H.known i a N e2 with ⟨_,hk,_⟩|⟨S,hS,_⟩
  .rcases hk with hk|⟨a',C,X,WR,_⟩
   .exact hk
   .have ea:a'=a:=by rw[N]at C;exact(Option.some.inj C).symm
    subst ea;have X4:=(F op f b Z).2 (e1▸WR);rcases e4 with x|x|⟨_,x,_⟩
    .rw[X]at x;cases x
    .exact absurd x X4.1
    .rw[X]at x;cases x
  .rcases e3 with x|x
   .rw[S]at x;cases x
   .have:=(F op f b Z).1 (e1▸hS)
    rw[this]at x;cases x
 .obtain⟨x,R,A⟩:=touch_of N
  rcases getElem?_append_cases R with ⟨hi,G⟩|⟨_,y⟩
  .rcases H.known i a (by rw[touchAt_of G];exact A) hm with hk|⟨p,q,g,I,hl⟩
   .exact .inl (hk.app _)
   .exact .inr ⟨p,q,g,by rw[g?_old hi];exact I,hl⟩
  .have hk:=knows_own R
   rw[Y x y]at hk;refine .inl ⟨lt_size_of_getElem? R,.inl hk,λa' C hs=>?_⟩;have ea:a'=a:=by rw[show touchAt _ i=some a from N]at C;exact(Option.some.inj C).symm
   subst ea;obtain⟨h1,h2⟩:=(F x y a' A).2 hs;exact⟨h1,λh3=>by rw[g?_of R,Y x y,h2 h3]⟩
 .obtain⟨x,R,A⟩:=touch_of N
  rcases getElem?_append_cases R with ⟨_,G⟩|⟨_,y⟩
  .exact(H.wrote i a (by rw[touchAt_of G];exact A) S hS g I).app _
  .rw[(F x y a A).1 hS]at S;cases S
 .by_cases e:g=h
  .subst e;rw[Deaf_own,hd I];exact H.hears g I
  .rw[Deaf_other t (λz=>e z.symm) _ Y];exact H.hears g I
 .rcases nU.1 f with f|f
  .exact H.seen op f
  .obtain⟨e,he,rfl⟩:=Go.Conc.mem_ofEvents f;exact(W e he).2
end
def Walk(P:aI)(main:Bool)(D:World->World->Array Event->Prop)(Stop:gi)(g:aW)(w:aj):Prop:=
 ∀R:Goroutine->World->Prop,(∀g w,(∀d,Stop g (w.at d))->R g w)->(∀g w,g.status=.running->(∀d,∃g' w' es,stepG P main g (w.at d)=.go g' w' es/\D (w.at d) w' es/\R g' w')->R g w)->R g w
section
variable{P:aI}
theorem Walk.stop(h:∀d,Stop g (w.at d)):Walk P main D Stop g w:=λ_ f _=>f g w h
theorem Walk.step(y:g.status=.running)(h:∀d,∃g' w' es,stepG P main g (w.at d)=.go g' w' es/\D (w.at d) w' es/\Walk P main D Stop g' w'):Walk P main D Stop g w:=
 λR A f=>f g w y λd=>by
  obtain⟨g',w',es,a,b,c⟩:=h d;exact⟨g',w',es,a,b,c R A f⟩
theorem Walk.ind{M:gi}(h:Walk P main D Stop g w)(A:∀g w,(∀d,Stop g (w.at d))->M g w)(y:∀g w,g.status=.running->(∀d,∃g' w' es,stepG P main g (w.at d)=.go g' w' es/\D (w.at d) w' es/\Walk P main D Stop g' w'/\M g' w')->M g w):M g w:=
 (h (λg w=>Walk P main D Stop g w/\M g w) (λg w x=>⟨.stop x,A g w x⟩) λg w f x=>⟨.step f λd=>by
   obtain⟨g',w',es,a,b,c,_⟩:=x d;exact⟨g',w',es,a,b,c⟩,y g w f x⟩).2
end
theorem xF{P:aI}(C:∀w d,D w (w.at d) #[])(hl:∀w w' es f,D w w' es->(∀e∈f,e∈es)->D w w' f)(Stop:gi):aC P main D (Walk P main D Stop):=by
 refine⟨λg w d h=>?_,C,hl,λg w y h=>.step y λd=>?_⟩
 .refine h.ind (M:=λg w=>Walk P main D Stop g (w.at d)) (λg w h=>.stop λA=>h A) λg w y h=>.step y λA=>?_
  obtain⟨g',w',es,a,b,c,_⟩:=h A;exact⟨g',w',es,a,b,c⟩
 .obtain⟨g',w',es,H,G,F,_⟩:=h d
  exact⟨g',w',es,H,G,F⟩
def R2(P:aI)(K:cF)(Shun Still:dr)(B:Nat)(Mem:qo)(Inb:Nat->Option Seat)(h:Nat)(T:Trace)(J:jH)(w:aj)(q:cm):Prop:=
 TokCore P K Still B (Acc Shun h) Mem (λg=>g≠h/\(Inb g).isSome) Inb (·=h) (λ_=>False) T J w q
section
variable{P:aI}{K:cF}{Shun:dr}{B:Nat}
theorem lY{main:Bool}{R:World->World->Prop}{D G:World->World->Array Event->Prop}{S F:gi}(C:∀w w' es,D w w' es->G w w' es)(A:∀g w,S g w->F g w):
 ∀{n:Nat}{g:aW}{w:aj},Goes P main R D S n g w->Goes P main R G F n g w
 |0,_,_,h=>λf r=>A _ _ (h f r)
 |n+1,_,_,h=>h.elim (λx=>.inl λf r=>A _ _ (x f r)) fun⟨H,x⟩=>.inr ⟨H,λf r=>by
  have:=x f r
  revert this
  cases stepG P main _ f<;>simp only[GStep.goes,imp_self]
  exact fun⟨d,y⟩=>⟨C _ _ _ d,lY C A y⟩⟩
theorem AtIn.raise{s:Seat}{f:aW}(hB:B<=B')(x:AtIn P main K Still B s g f):AtIn P main K Still B' s g f:=by
 obtain⟨N,I,H,G,F,es,A,y⟩:=x;exact⟨N,I,H,G,F,es,λe C=>by obtain⟨a,e1,e2,R⟩:=A e C;exact⟨a,e1,e2,c7 R hB⟩,y⟩
theorem Sits.raise{main:Bool}{s:Seat}{n:Nat}{g:aW}(hB:B<=B')(x:Sits P main K Still B s n g):Sits P main K Still B' s n g:=by
 rcases x with ⟨k,w,e,F⟩|⟨e,A,f,e2,C⟩
 .exact .inl ⟨k,w,e,lY (λ_ _ _ ⟨d1,d2⟩=>⟨d1,λe G=>by obtain⟨a,e1,e2,H⟩:=d2 e G;exact⟨a,e1,e2,c7 H hB⟩⟩) (λ_ _ ⟨f,y⟩=>⟨f,AtIn.raise hB y⟩) F⟩
 .exact .inr ⟨e,A,f,e2,AtIn.raise hB C⟩
theorem AV{Kf:Trace->Nat->Prop}{Sp f:qo}(C:TokCore P K Still B Kf Mem L Inb Sp f T J w q)(hB:B<=B'):TokCore P K Still B' Kf Mem L Inb Sp f T J w q:=
 ⟨λi g y A=>by
  have:=C.idle i g y A;cases e:Inb i with
  |none=>rw[e]at this;exact this
  |some s=>rw[e]at this;exact Sits.raise hB this,C.chans,C.wf,C.live,C.inj,C.above,λi s e=>⟨(C.mem i s e).1,λc hc=>c7 ((C.mem i s e).2 c hc) hB⟩,C.nomem,C.lo,C.past.mono hB,C.keep⟩
theorem R2.awake(C:R2 P K Shun Still B Mem Inb h T J w q){a:aW}(H:J[h]? =some a)(F:a.status=.running\/a.status=.blocked)(g:aW)(G:g∈J):Go.Conc.awake g:=by
 obtain⟨i,f⟩:=Array.mem_iff_getElem?.1 G;refine awake_of ?_
 by_cases e:i=h
 .rw[e,H]at f
  cases f
  exact F.imp_right .inl
 have A:=C.idle i g e f
 revert A
 cases Inb i with
 |none=>exact λz=>z.2.status.imp_right .inr
 |some s=>exact λz=>(Go.Conc.Sits.status C.keep z).imp And.left λy=>.inl y.1
theorem R2.own(C:R2 P K Shun Still B Mem Inb h T J w q){a a':aW}{es:Array Event}(Z:J[h]? =some a)(X:K w')(S:∀i s c,Inb i=some s->s.has c->w'.heap[c]? =w.heap[c]?)(R:∀e∈es,wQ Shun Still B h e)(Y:Mem h->deafBehind (Deaf T h) es=Deaf T h):
 R2 P K Shun Still B Mem Inb h (T++MemOp.ofEvents h a.frame.fn a.frame.place es) ((J.map (woken P a a' w')).setIfInBounds h a') w' q/\((J.map (woken P a a' w')).setIfInBounds h a')[h]? =some a':=by
 have N:h<J.size:=(cH.1 Z).1;have A:∀op∈MemOp.ofEvents h a.frame.fn a.frame.place es,op.g=h:=λop I=>by obtain⟨e,_,rfl⟩:=Go.Conc.mem_ofEvents I;rfl
 have C':TokCore P K Still B (Acc Shun h) Mem (λg=>g≠h/\(Inb g).isSome) Inb (·=h) (λ_=>False) T J w' q:=
  ⟨C.idle,λi s c F e hc=>by obtain⟨cap,k,hk⟩:=C.chans i s c F e hc;exact⟨cap,k,(S i s c e hc).trans hk⟩,C.wf,C.live,C.inj,C.above,C.mem,C.nomem,C.lo,C.past,X⟩
 refine⟨⟨λx y H W=>?_,C'.chans,C.wf,λ_ _ z=>z.elim,C.inj,λj hj=>?_,C.mem,C.nomem,C.lo,FT C.past R Y,X⟩,Db (by simpa using N)⟩
 .rw[ku (λe=>H e.symm),tF]at W
  obtain⟨G,f,rfl⟩:=EK.1 W;rw[woken_of_again (C'.fixed H f)];have F:=C.idle x G H f;cases e:Inb x with
  |none=>rw[e]at F;exact⟨F.1,by rw[Deaf_other T (λz=>H z.symm) _ A];exact F.2⟩
  |some s=>rw[e]at F;exact F
 .simp only[zD,Be]at hj
  rw[Deaf_other T (g':=h) (by omega) _ A];exact C.above j hj
theorem Ed{Kf:Trace->Nat->Prop}{Sp:qo}(hKf:∀t u i,Kf t i->Kf (t++u) i)(C:TokCore P K Still B Kf Mem L Inb Sp (λ_=>False) T J w q){sl:Option (Nat×Nat)}(hi:J[i]? =some g)(W:¬Sp i)(hn:Inb i=none)(f:g.status=.running)(hsA:∀x gx,Sp x->J[x]? =some gx->gx.again w=gx):
 ∃(G:jH)(E:Array MemOp)(q':cm),runT P (crowd J w sl) i=(.next (crowd G w sl),E)/\(∀op∈E,op.g=i)/\G.size=J.size/\(∀x,x≠i->G[x]? =J[x]?)/\(∀x,x≠i->q' x=q x)/\
   TokCore P K Still B Kf Mem L Inb Sp (λ_=>False) (T++E) G w q'/\sumTo J.size q'<sumTo J.size q:=by
 have N:i<J.size:=(cH.1 hi).1;have Y:=C.idle i g W hi;rw[hn]at Y;obtain⟨X,Z⟩:=Y;have Ii:(i==0)=false:=by simp;omega
 cases I:q i with
 |zero=>rw[I]at Z;rw[Z.1]at f;cases f
 |succ k=>
  rw[I]at Z;rcases Z with ⟨hf,_⟩|⟨_,g',es,hm,S,uQ⟩
  .rw[hf]at f;cases f
  have A:∀op∈MemOp.ofEvents i g.frame.fn g.frame.place es,op.g=i:=λop F=>by obtain⟨e,_,rfl⟩:=Go.Conc.mem_ofEvents F;rfl
  have H:∀x,x≠i->((J.map (woken P g g' w)).setIfInBounds i g')[x]? =J[x]? :=by
   intro x hx;rw[ku (λe=>hx e.symm),tF];cases e:J[x]? with
   |none=>rfl
   |some y=>
    have:woken P g g' w y=y:=woken_of_again (by
     by_cases R:Sp x
     .exact hsA x y R e
     .exact C.fixed R e)
    simp[this]
  refine⟨_,_,upd q i k,runT_crowd_go (sl:=sl) hi (by rw[Ii];exact S w),A,by simp,H,λx hx=>upd_ne q k hx,?_,?_⟩
  .refine C.put N (by simp) H (Db (by simpa using N)) A (λz=>z.elim) (by rw[hn];exact⟨X,by rw[Deaf_own];exact uQ⟩) ?_
   exact C.past.appMute (hKf T _) A (λop F=>by obtain⟨e,he,rfl⟩:=Go.Conc.mem_ofEvents F;exact touch_mute (hm e he)) (λhM=>((C.nomem i hM).elim (λz=>absurd hn z) (λz=>absurd z W))) (λop F=>by obtain⟨e,he,rfl⟩:=Go.Conc.mem_ofEvents F;exact low_mute (hm e he) B)
  .have h2:sumTo J.size (upd q i k)+(k+1)=sumTo J.size q+k:=by
    have:=sumTo_upd q k id N
    simpa [I]using this
   omega
end
structure DR(K:cF)(Shun Still:dr)(h:Nat)(w w':aj)(es:Array Event):Prop where
 keep:K w->K w'
 chan:∀(c cap k:Nat),w.heap[c]? =some (Obj.chan cap #[] false k k false)->w'.heap[c]? =w.heap[c]?
 size:w.heap.size<=w'.heap.size
 ev:∀e∈es,wQ Shun Still w'.heap.size h e/\e.loc≠.mark .disable/\e.loc≠.mark .enable
section
variable{P:aI}{K:cF}{Shun:dr}
theorem hold(Yq:∀w d,K w->K (w.at d))(hD:∀w w' es,D w w' es->DR K Shun Still h w w' es)(Yl:Mem h\/∀i,Inb i=none){a:aW}(hW:Walk P (h==0) D Stop a w):∀(J:jH)(T:Trace)(q:cm)(sl:Option (Nat×Nat)),J[h]? =some a->R2 P K Shun Still w.heap.size Mem Inb h T J w q->
 ∃N f a' w' y H I,runNT P N (crowd J w sl) T=(.next (crowd f w' y),H)/\f.size=J.size/\f[h]? =some a'/\Stop a' w'/\R2 P K Shun Still w'.heap.size Mem Inb h H f w' I/\Deaf H h=Deaf T h:=by
 refine Walk.ind (M:=λa w=>∀(J:jH)(T:Trace)(q:cm)(sl:Option (Nat×Nat)),J[h]? =some a->R2 P K Shun Still w.heap.size Mem Inb h T J w q->
  ∃N f a' w' y H I,runNT P N (crowd J w sl) T=(.next (crowd f w' y),H)/\f.size=J.size/\f[h]? =some a'/\Stop a' w'/\R2 P K Shun Still w'.heap.size Mem Inb h H f w' I/\Deaf H h=Deaf T h) hW ?_ ?_
 .exact λa w DF J T q sl R C=>⟨0,J,_,_,sl,T,q,rfl,rfl,R,DF _,C,rfl⟩
 .intro a w hs hx
  have Ui:∀(μ:Nat)(J:jH)(T:Trace)(q:cm)(sl:Option (Nat×Nat))(A:Nat),sumTo J.size q=μ->J[h]? =some a->R2 P K Shun Still w.heap.size Mem Inb h T J (w.at A) q->
   ∃N f a' w' y H I,runNT P N (crowd J (w.at A) sl) T=(.next (crowd f w' y),H)/\f.size=J.size/\f[h]? =some a'/\Stop a' w'/\R2 P K Shun Still w'.heap.size Mem Inb h H f w' I/\Deaf H h=Deaf T h:=by
   intro μ
   induction μ using Nat.strongRecOn with
   |_ μ Z=>
    intro J T q sl A Vb R C;obtain⟨i,g,d,y,hi,hg,sE⟩:=crowd_pick (P:=P) (w:=w.at A) (sl:=sl) (C.awake R (.inl hs)) ⟨h,a,R,hs⟩;have Cd:R2 P K Shun Still w.heap.size Mem Inb h T J (w.at d) q:=TokCore.at Yq C d;have X:stepT P (crowd J (w.at A) sl)=runT P (crowd J (w.at d) y) i:=sE;have next:∀{Y E},runT P (crowd J (w.at d) y) i=(.next Y,E)->∀N,runNT P (N+1) (crowd J (w.at A) sl) T=runNT P N Y (T++E):=λe N=>by simp only[runNT,X,e]
    by_cases e:i=h
    .subst e
     obtain rfl:g=a:=by rw[R]at hi;exact(Option.some.inj hi).symm
     obtain⟨O,w1,es1,DF,Ty,_,ih⟩:=hx d;have hr:=hD _ _ _ Ty;have hmarks:Mem i->deafBehind (Deaf T i) es1=Deaf T i:=λ_=>deafBehind_still (λe he=>(hr.ev e he).2) _
     obtain⟨C',Ay⟩:=R2.own (a':=O) (AV Cd hr.size) R (hr.keep Cd.keep) (λi s c e hc=>by obtain⟨cap,k,hk⟩:=Cd.chans i s c (λz=>z) e hc;exact hr.chan c cap k hk) (λe he=>(hr.ev e he).1) hmarks;obtain⟨N',f,a',w',F,H,I,h1,h2,h3,h4,h5,h6⟩:=ih _ _ _ y Ay C';refine⟨N'+1,f,a',w',F,H,I,by rw[next (runT_crowd_go (sl:=y) hi DF)];exact h1,by rw[h2];simp,h3,h4,h5,?_⟩;rw[h6,Deaf_own];exact deafBehind_still (λe he=>(hr.ev e he).2) _
    .cases SI:Inb i with
     |none=>
      obtain⟨f,E,I,td,v9,S,Xc,_,C',kU⟩:=Ed (Kf:=Acc Shun h) (sl:=y) (λt u i x=>Acc.app x u) Cd hi e SI hg (λx gx hx G=>by subst hx;rw[R]at G;obtain rfl:=Option.some.inj G;exact again_running _ (.inl hs));obtain⟨N',W,a',w',F,H,NA,h1,h2,h3,h4,h5,h6⟩:=Z (sumTo f.size I) (by rw[S];omega) f _ I y d rfl (by rw[Xc h (λz=>e z.symm)];exact R) C';exact⟨N'+1,W,a',w',F,H,NA,by rw[next td];exact h1,by rw[h2,S],h3,h4,h5,by rw[h6];exact Deaf_other T (λz=>e z) _ v9⟩
     |some s=>
      have hM:Mem h:=Yl.elim id λz=>by rw[z i]at SI;cases SI
      obtain⟨f,E,I,td,S,ue,_,_,C',kU⟩:=TokCore.by_step (Kf:=Acc Shun h) (sl:=y) (λt u i x=>Acc.app x u) Cd hi e hg (λx gx hx G=>by subst hx;rw[R]at G;obtain rfl:=Option.some.inj G;exact again_running _ (.inl hs)) (λz=>z.elim)
       (λs' Az _ _=>⟨λz=>z,λx gx c hx G _=>by subst hx;rw[R]at G;obtain rfl:=Option.some.inj G;exact offersAt_of_not_blocked (by rw[hs];simp) _ _⟩)
      obtain⟨N',W,a',w',F,H,NA,h1,h2,h3,h4,h5,h6⟩:=Z (sumTo f.size I) (by rw[S];omega) f _ I y d rfl (by rw[ue h rfl];exact R) C';exact⟨N'+1,W,a',w',F,H,NA,by rw[next td];exact h1,by rw[h2,S],h3,h4,h5,by rw[h5.past.hears h hM,C.past.hears h hM]⟩
  exact λJ T q sl R C=>Ui _ J T q sl w.drawn rfl R C
end
section
variable{Shun:dr}{B:Nat}{t:Trace}
end
theorem Jc{P:aI}{m f:Machine}{t:Trace}{E:Array MemOp}(h:stepT P m=(.next f,E)):runNT P 1 m t=(.next f,t++E):=by simp only[runNT,h]
section
variable{P:aI}{K:cF}{Shun:dr}{B:Nat}
section
variable{a:aW}{k:Nat}{s:Seat}{es:Array Event}
theorem rW(f:s.Wf)(hk:s.cases[kk]? =some (rcase c z)):∀(m:Nat)(cc:CommCase),m≠kk->s.cases[m]? =some cc->cc.chan≠.chan (some c):=by
 intro m cc F y ec;obtain⟨C,A,rfl⟩:=f.recvs cc (EH y);simp only[rcase,Value.chan.injEq,Option.some.injEq]at ec;subst ec;exact F (f.apart m kk _ _ _ y hk)
end
end
abbrev zf(P:aI)(K:cF)(Shun:dr)(B:Nat)(Mem:qo)(T:Trace)(J:jH)(w:aj)(q:cm):Prop:=R2 P K Shun (λ_=>False) B Mem (λ_=>none) 0 T J w q
section
variable{P:aI}{K:cF}{Shun:dr}{B:Nat}{a:aW}
theorem lO{P:aI}{N:Nat}{m A y:Machine}{t f:Trace}{E:Array MemOp}(h:runNT P N m t=(.next A,f))(C:stepT P A=(.next y,E)):runNT P (N+1) m t=(.next y,f++E):=by
 have:=runNT_succ_of h C;exact this
theorem zf.hears(C:zf P K Shun B Mem T J w q)(F:Deaf T 0=0):zf P K Shun B (λg=>g=0) T J w q:=
 ⟨C.idle,C.chans,C.wf,C.live,C.inj,C.above,λi s e=>(by cases e),λi y=>.inr y,λi s _ e=>(by cases e),⟨C.past.clean,λi a G f=>(C.past.known i a G f).imp id λx=>x.2.1.elim,λ_ _ _ _ H=>H.elim,λg A=>(by rw[A];exact F),C.past.seen⟩,C.keep⟩
theorem u6{K':cF}(C:zf P K Shun B Mem T J w q)(h:K' w):zf P K' Shun B Mem T J w q:=
 ⟨λi g f y=>C.idle i g f y,C.chans,C.wf,C.live,C.inj,C.above,C.mem,C.nomem,C.lo,C.past,h⟩
end
abbrev tT(a:Addr):Event:=⟨.cell a,false,true⟩
abbrev Ej(a:Addr):Event:=⟨.cell a,true,true⟩
abbrev uN(m:Mark):Event:=⟨.mark m,false,true⟩
def jd(k:IntKind)(a:Addr)(w:aj)(n:Int):Prop:=w.cell? a=some (.int k n)/\w.frozen? a=false
structure qE where
 st:Addr
 se:Addr
 ne:st≠se
section
variable(P:aI)(K:cF)(Shun:dr)(B:Nat)(Gp:qE)(Anchor:Goroutine->Prop)
end
section
variable{P:aI}{K:cF}{Shun:dr}{B:Nat}{Gp:qE}{Anchor:Goroutine->Prop}{t:Nat}
end
section
variable{a:Nat}{s:Int}
end
def dM(a:Nat):Nat:=if a=0\/a=7\/a=8 then 0 else 1
def dC(c:Nat):Nat:=if c<=1 then 0 else 1
section
variable{P:aI}{K:cF}{Shun:dr}{B:Nat}{t:Trace}
def ur(d:Nat)(es:Array Event):Prop:=∀(k:Nat)(e:Event),es[k]? =some e->(MemAct.ofEvent e).touch? ≠none->0<d/\∀(j:Nat)(e':Event),j<k->es[j]? =some e'->e'.loc≠.mark .enable
theorem iJ{es:Array Event}(h:∀e∈es,(MemAct.ofEvent e).touch? =none):ur d es:=λk e y f=>absurd (h e (EH y)) f
theorem mA{es:Array Event}(y:0<d)(h:∀e∈es,e.loc≠.mark .enable):ur d es:=λ_ _ _ _=>⟨y,λ_ A _ f=>h A (EH f)⟩
theorem GA(C:0<d)(a:Addr):ur d (semEvents a):=by
 intro k e y A;refine⟨C,λj F hj f=>?_⟩;rcases k with _|_|_|_|k
 .omega
 .obtain rfl:j=0:=by omega
  simp[semEvents]at f;subst f;simp
 .rcases j with _|_|j
  .simp[semEvents]at f;subst f;simp
  .simp[semEvents]at f;subst f;simp
  .omega
 .simp[semEvents]at y;subst y;exact absurd rfl A
 .simp[semEvents]at y
theorem Cz{t u:Trace}{g:Nat}:∀(k:Nat),k<=u.size->(∀j y,j<k->u[j]? =some y->y.act≠.mark .enable)->Deaf t g<=(t++u).deaf g (t.size+k)
 |0,_,_=>by rw[iO,deaf_old (az _)];exact az _
 |k+1,hk,h=>by
  have f:=Cz (t:=t) (g:=g) k (by omega) λj y hj=>h j y (by omega)
  have A:(t++u)[t.size+k]? =some u[k]:=by rw[Array.getElem?_append_right (by omega)];simp
  have F:=h k u[k] (by omega) (hU (by omega));rw[<-Nat.add_assoc,deaf_succ A];refine aT f ?_;unfold deafStep
  split
  .split<;>omega
  .rename_i C;exact absurd C F
  .exact az _
theorem z8(H:PastG Still Mem L B (Acc Shun h t) t)(Vw:∀l,Still l->¬Shun l){fn:FuncId}{pos:String}{es:Array Event}(Y:∀e∈es,(∀x,(MemAct.ofEvent e).touch? =some x->x.kind=.atomic/\Shun x.loc)/\(MemAct.ofEvent e).low B)(hM:¬Mem c)(hh:ur (Deaf t c) es):
 PastG Still Mem L B (Acc Shun h (t++MemOp.ofEvents c fn pos es)) (t++MemOp.ofEvents c fn pos es):=by
 have hu:∀op∈MemOp.ofEvents c fn pos es,op.g=c:=λop f=>by obtain⟨e,_,rfl⟩:=Go.Conc.mem_ofEvents f;rfl
 have R:∀op∈MemOp.ofEvents c fn pos es,∀b,op.act.touch? =some b->b.kind=.atomic/\Shun b.loc:=λop f b hb=>by
  obtain⟨e,S,rfl⟩:=Go.Conc.mem_ofEvents f;exact(Y e S).1 b hb
 refine⟨λsaid=>noRace_append (H.clean said) hu λi a I op f b hb hc=>?_,λi a I hm=>?_,λi a I hw hS g F=>?_,λg F=>?_,λop f=>?_⟩
 .obtain⟨e1,e2,e3,e4⟩:=hc
  obtain⟨b1,b2⟩:=R op f b hb;have X:Shun a.loc:=e1▸b2;rcases H.known i a I e2 with ⟨_,_,hnp⟩|⟨_,hS,_⟩
  .rcases e4 with x|x|⟨_,_,x⟩
   .exact absurd x (hnp a I X).1
   .rw[b1]at x;cases x
   .rw[b1]at x;cases x
  .exact absurd X (Vw _ hS)
 .obtain⟨x,G,A⟩:=touch_of I
  rcases getElem?_append_cases G with ⟨hi,N⟩|⟨hge,C⟩
  .rcases H.known i a (by rw[touchAt_of N];exact A) hm with hk|⟨p,q,g,F,hl⟩
   .exact .inl (hk.app _)
   .exact .inr ⟨p,q,g,by rw[g?_old hi];exact F,hl⟩
  .obtain⟨b1,b2⟩:=R x C a A
   have Vh:¬(t++MemOp.ofEvents c fn pos es).heard i:=by
    rintro ⟨g,F,h0⟩
    have kU:=lt_size_of_getElem? G;have hge:t.size<=i:=by assumption
    obtain⟨k,rfl⟩:∃k,i=t.size+k:=⟨i-t.size,by omega⟩;have W:(MemOp.ofEvents c fn pos es)[k]? =some x:=by rw[Array.getElem?_append_right (by omega)]at G;simpa using G
    have hgc:g=c:=by rw[g?_of G]at F;rw[<-Option.some.inj F];exact hu x C
    subst hgc;rw[ofEvents_eq,tF]at W;obtain⟨e,S,rfl⟩:=EK.1 W;obtain⟨h1,h2⟩:=hh k e S (by rw[show(MemAct.ofEvent e).touch? =some a from A];simp)
    have:=Cz (t:=t) (u:=MemOp.ofEvents g fn pos es) (g:=g) k (by rw[ofEvents_eq];simp;exact Nat.le_of_lt (cH.1 S).1) (λj y hj hy=>by
     rw[ofEvents_eq,tF]at hy;obtain⟨e',XO,rfl⟩:=EK.1 hy;intro z;have z':MemAct.ofEvent e'=.mark .enable:=z;refine h2 j e' hj XO ?_;obtain⟨loc,wr,sy⟩:=e';cases loc with
     |mark m=>simpa [MemAct.ofEvent]using z'
     |obj c=>cases wr<;>cases sy<;>simp[MemAct.ofEvent]at z'
     |_=>simp[MemAct.ofEvent]at z')
    omega
   refine .inl ⟨lt_size_of_getElem? G,.inr ⟨a,I,b1,b2,Vh⟩,λa' Z _=>?_⟩;have ea:a'=a:=by rw[show touchAt _ i=some a from I]at Z;exact(Option.some.inj Z).symm
   subst ea;exact⟨by rw[b1];simp,λz=>by rw[b1]at z;cases z⟩
 .obtain⟨x,G,A⟩:=touch_of I
  rcases getElem?_append_cases G with ⟨_,N⟩|⟨_,C⟩
  .exact(H.wrote i a (by rw[touchAt_of N];exact A) hw hS g F).app _
  .exact absurd (R x C a A).2 (Vw _ hS)
 .rw[Deaf_other t (show c≠g from λz=>hM (by rw[z];exact F)) _ hu];exact H.hears g F
 .rcases nU.1 f with f|f
  .exact H.seen op f
  .obtain⟨e,S,rfl⟩:=Go.Conc.mem_ofEvents f;exact(Y e S).2
end
section
variable{P:aI}{K:cF}{Shun:dr}{B:Nat}
end
section
variable{P:aI}{K:cF}{Shun:dr}{B:Nat}{Gp:qE}{Anchor:Goroutine->Prop}
def Joined(P:aI)(K:cF)(Shun:dr)(B:Nat)(Gp:qE)(Anchor:Goroutine->Prop)(n:Nat)(m:Machine)(t:Trace):Prop:=
 ∃J w sl q a,m=crowd J w sl/\J.size=n/\J[0]? =some a/\Anchor a/\zf P K Shun B (λ_=>False) t J w q/\Deaf t 0=0/\jd .u64 Gp.st w 0/\jd .u32 Gp.se w 0
theorem kE{k:IntKind}{a:Addr}{n:Int}(h:jd k a w n)(v:Int):jd k a (w.setCell a (.int k v)) v:=⟨EO _ _ _ h.1,by rw[rB];exact h.2⟩
theorem fE{k y:IntKind}{a b:Addr}{n:Int}(h:jd k a w n)(f:b≠a)(v:Int):jd k a (w.setCell b (.int y v)) n:=⟨(qu _ _ _ _ f).trans h.1,by rw[rB];exact h.2⟩
structure JK(K:cF)(Shun:dr)(B:Nat)(Gp:qE):Prop where
 at':∀w d,K w->K (w.at d)
 st:∀w v,K w->K (w.setCell Gp.st v)
 se:∀w v,K w->K (w.setCell Gp.se v)
 xM:Shun (.cell Gp.st)
 Ra:Shun (.cell Gp.se)
 zn:Gp.st.block<B
 RJ:Gp.se.block<B
theorem gY{m:Mark}(y:(MemAct.mark m).touch? =none)(hl:(MemAct.mark m).low B):wQ Shun Still B h (uN m):=by
 refine⟨λx f=>?_,hl⟩;have:(MemAct.ofEvent (uN m)).touch? =none:=y;rw[this]at f;cases f
theorem dA{a:Addr}{wr:Bool}(y:¬Still (.cell a))(hl:a.block<B):wQ Shun Still B h ⟨.cell a,wr,true⟩:=by
 refine⟨λx f=>?_,hl⟩;have:(MemAct.ofEvent ⟨.cell a,wr,true⟩).touch? =some ⟨.cell a,wr,.atomic⟩:=rfl;rw[this]at f;obtain rfl:=Option.some.inj f;exact⟨λz=>absurd z y,λ_=>⟨by simp,λz=>by cases z⟩⟩
theorem jT{m:Mark}(y:(MemAct.mark m).touch? =none)(hl:(MemAct.mark m).low B):(∀x,(MemAct.ofEvent (uN m)).touch? =some x->x.kind=.atomic/\Shun x.loc)/\(MemAct.ofEvent (uN m)).low B:=by
 refine⟨λx f=>?_,hl⟩;have:(MemAct.ofEvent (uN m)).touch? =none:=y;rw[this]at f;cases f
theorem cG{a:Addr}{wr:Bool}(y:Shun (.cell a))(hl:a.block<B):(∀x,(MemAct.ofEvent ⟨.cell a,wr,true⟩).touch? =some x->x.kind=.atomic/\Shun x.loc)/\(MemAct.ofEvent ⟨.cell a,wr,true⟩).low B:=by
 refine⟨λx f=>?_,hl⟩;have:(MemAct.ofEvent ⟨.cell a,wr,true⟩).touch? =some ⟨.cell a,wr,.atomic⟩:=rfl;rw[this]at f;obtain rfl:=Option.some.inj f;exact⟨rfl,y⟩
theorem Hv{Q:Event->Prop}{a:Addr}(F:Q (uN .disable))(C:Q (tT a))(A:Q (Ej a))(y:Q (uN .enable)):∀e∈semEvents a,Q e:=by
 intro e f;simp only[semEvents,rK,ak,bB,or_false]at f;rcases f with rfl|rfl|rfl|rfl<;>assumption
theorem c9{Q:Event->Prop}{f:Event}(h:Q f):∀e∈#[f],Q e:=by intro e y;simp at y;subst y;exact h
theorem pV{Q:Event->Prop}{y f:Event}(h:Q y)(C:Q f):∀e∈#[y,f],Q e:=by intro e A;simp at A;rcases A with rfl|rfl<;>assumption
theorem sN{Q:Event->Prop}:∀e∈(#[]:Array Event),Q e:=by intro e f;simp at f
theorem II{a:aW}(f:a.status=.running):{{a with status:=.blocked} with status:=.running}=a:=by
 cases a;simp_all
theorem tJ(P:aI)(g g':aW)(w:aj){a:aW}(f:a.status=.running)(ho:a.offers=none):woken P g g' w {a with status:=.blocked}=a\/(woken P g g' w {a with status:=.blocked}={a with status:=.blocked}/\¬(mayWake P g=true/\g'.status=.running)):=by
 unfold woken
 split
 .left
  have:({a with status:=.blocked}:aW).again w={{a with status:=.blocked} with status:=.running}:=by unfold Goroutine.again;simp[ho]
  rw[this];exact II f
 .rename_i y
  refine .inr ⟨rfl,fun⟨C,A⟩=>y (by simp[C,A])⟩
end
end Go.Proofs.YtobagnjnbmgidaaGreatDoor
