import Derived.Test.YtobagnjnbmgidabGreatDoorA0
import Derived.StepT
import Derived.RunT
import Derived.Laws.World
import Derived.Conc.CompanyMem
import Derived.Conc.CompanyCalls
import Derived.Conc.CompanyDraw
import Derived.Conc.DeferLaws
import Derived.Conc.Starve
import Derived.Conc.AppendWalk
import Derived.RowKit
import Derived.KernelRfl
import Derived.Below
import Derived.OwnWalk
import Derived.WalkKit
import Derived.Conc.Token
import Derived.Conc.MarkLaws
set_option linter.all false
namespace Go.Proofs.YtobagnjnbmgidabGreatDoor
open Go Go.Conc Go.RowKit
open Go.ConcN (sumTo upd sumTo_upd upd_ne upd_same)
def Θ{p:Prop}(h:p:=by simp<;>omega):p:=h
def θ{p:Prop}(h:p:=by simp;omega):p:=h
def η{p:Prop}(h:p:=by simp[go_sem]):p:=h
def ζ{p:Prop}(h:p:=by go_simp;rfl):p:=h
def ξ{p:Prop}(h:p:=by simp_all):p:=h
def ρ{p:Prop}(h:p:=by kernel_rfl):p:=h
def ω{p:Prop}(h:p:=by omega):p:=h
def δ{p:Prop}(h:p:=by decide):p:=h
def χ{p:Prop}(h:p:=by grind):p:=h
def ψ{p:Prop}(h:p:=by simp):p:=h
def φ{p:Prop}(h:p:=by rfl):p:=h
variable{A:Act}{fn:Func}{r rest:List Nat}{l:List Oper}{d i:Nat}{o:Oper}{α:Type}{e:TypeId}{x:Value}{p:aG}
variable{J:Bool}{D:World->World->Array Event->Prop}{V Stop:gi}{b:aC}{X:cO}{w w':aj}{E:g8}{Ok:Addr->Bool->Prop}{U:dm}{Mem Lo:p8}{h j c B' kk n:Nat}{u T:Trace}{g a₂ g' gK g0 gh gm g1:aV}{Z:Nat->Option Seat}{Y:jH}{q:bU}{v z z':Value}{M M':Nat->Goroutine->Prop}{Q Q':Goroutine->Prop}{m:Int}
def mB(z:Addr)(v:Value):Obj->Obj
 |.cells c elem frozen=>.cells (if z.spot.isSome then c else c.setIfInBounds z.off v) elem frozen
 |o=>o
def heap_set(w:aj)(z:Addr)(v:Value)(r:Nat):(w.setCell z v).heap[r]? =if z.block=r then(w.heap[r]?).map (mB z v)else w.heap[r]? :=by
 simp only[World.setCell,sU];rfl
def fK(h:∀r:Nat,w.heap[r]? =w'.heap[r]?)(d:w.tape=w'.tape)(c:w.drawn=w'.drawn)(b:w.os=w'.os)(a:w.output=w'.output):w=w':=by
 cases w;cases w';simp only[World.mk.injEq];exact⟨Array.ext_getElem? h,d,c,b,a⟩
def Ck{a z:Addr}(d:a.block=z.block)(b:a≠z)(o:Obj):mB a x (mB z v o)=mB z v (mB a x o):=by
 cases o with
 |cells c e f=>
  simp only[mB];by_cases d:a.spot.isSome<;>by_cases c:z.spot.isSome<;>simp only[d,c,if_true];have:z.off≠a.off:=λe=>b (by
   cases a;cases z;simp_all)
  congr 1;simp only[sP,if_false];exact Array.setIfInBounds_comm _ _ this
 |_=>rfl
def vC(w:aj){a z:Addr}(x v:Value)(b:a≠z):(w.setCell z v).setCell a x=(w.setCell a x).setCell z v:=by
 refine fK (λr=>?_) rfl rfl rfl rfl;simp only[heap_set];by_cases d:a.block=r<;>by_cases c:z.block=r<;>simp only[d,c,if_true,if_false];cases w.heap[r]? with
 |none=>rfl
 |some o=>simp only[fI];rw[Ck (d.trans c.symm) b]
def uR(w:aj)(a z:Addr)(v:Value)(h:w.cell? a=none):(w.setCell z v).cell? a=none:=by
 unfold World.cell? at h ⊢;rw[heap_set];by_cases e:z.block=a.block
 .rw[sJ e];cases b:w.heap[a.block]? with
  |none=>rfl
  |some o=>
   rw[b]at h;cases o with
   |cells c el f=>
    simp only[fI,mB]at h ⊢;grind
   |_=>rfl
 simp_all
def ir(w:aj)(b:Nat):Prop:=∃c el f,w.heap[b]? =some (.cells c el f)
def ir.set{b:Nat}(h:ir w b)(z:Addr)(v:Value):ir (w.setCell z v) b:=by
 let⟨c,el,f,e⟩:=h;unfold ir;rw[heap_set,e];by_cases x:z.block=b
 .rw[sJ x];exact⟨_,_,_,rfl⟩
 simp_all
def ir.lt{b:Nat}(h:ir w b):b<w.heap.size:=by
 let⟨c,el,f,e⟩:=h;grind
def Cj(w:aj)(z:Addr)(v:Value)(r:Nat):(w.setCell z v).shape? r=w.shape? r:=by
 unfold World.shape?;rw[heap_set];by_cases e:z.block=r
 .rw[sJ e];cases w.heap[r]? with
  |none=>rfl
  |some o=>
   cases o with
   |cells c el f=>simp only[fI,mB];grind
   |_=>rfl
 simp_all
def nZ(z:Addr)(v:Value){r:Nat}(a:ir w z.block){o:Obj}(b:w.heap[r]? =some o)(d:∀c el f,o≠.cells c el f):z.block≠r/\(w.setCell z v).heap[r]? =some o:=by
 have:z.block≠r:=λe=>by
  let⟨c,el,f,h⟩:=a;simp_all
 exact⟨this,by rw[heap_set,af this];exact b⟩
def mN{p:aG}{c:Array Value}{e:TypeId}{k:Nat}(v:Value):∀(f x stop:Nat)(l:List (Nat×Nat×List UInt8)),seenCells p c e f x stop=.ok l->(∀t∈l,t.1≠k)->seenCells p (c.setIfInBounds k v) e f x stop=.ok l
 |0,x,stop,l,h,_=>by simp[seenCells]at h
 |f+1,x,stop,l,h,g=>by
  unfold seenCells at h ⊢;split at h
  .simp_all
  rename_i o;rw[af o];dsimp only at h ⊢;split at h
  .cases h
  rename_i r;rw[af r];split at h
  .cases h
  rename_i i s A;split at h
  .cases h
  rename_i y n;split at h
  .cases h
  .cases h
  rename_i z w b;cases a:seenCells p c e f (s+z.length) stop with
  |error m=>rw[a]at h;simp[Except.map]at h
  |ok j=>
   rw[a]at h;simp only[Except.map,Except.ok.injEq]at h;subst h;have d:i≠k:=g _ (bI ..);rw[ku (λe=>d e.symm),n];dsimp only;rw[b];split
   .simp_all
   .simp_all
   .rename_i q;cases q;rw[mN v f _ _ j a (λt u=>g t (aP _ u))];rfl
def Yq(z:Addr)(v:Value)(b:Nat)(c:Array Value):Array Value:=if z.block=b then(if z.spot.isSome then c else c.setIfInBounds z.off v)else c
def vF{b:Nat}{c:Array Value}{f:Nat×Nat}(z:Addr)(v:Value)(h:w.heap[b]? =some (.cells c e f)):(w.setCell z v).heap[b]? =some (.cells (Yq z v b c) e f):=by
 rw[heap_set,h];unfold Yq;split<;>rfl
def Cs{c:Array Value}{z:Addr}{b:Nat}(v:Value){f x stop:Nat}{l:List (Nat×Nat×List UInt8)}(h:seenCells p c e f x stop=.ok l)(d:∀t∈l,({block:=b,off:=t.1}:Addr)≠z):seenCells p (Yq z v b c) e f x stop=.ok l:=by
 unfold Yq;split
 .rename_i i;split
  .exact h
  .rename_i g;refine mN v f x stop l h λt a e=>d t a ?_;cases z;simp_all
 .exact h
def xy{at_:Addr}{u:TypeId}{k:Addr}{atomic:Bool}{c:Array Value}{f:Nat×Nat}{first:Nat}{a:Value}{cells:List (Nat×Nat×List UInt8)}(z:Addr)(v:Value)(h:w.seen p at_ u k atomic=.ok (c,e,f,first,a,cells))(C:∀t∈cells,({block:=at_.block,off:=t.1}:Addr)≠z):
 w.heap[at_.block]? =some (.cells c e f)/\(w.setCell z v).seen p at_ u k atomic=.ok (Yq z v at_.block c,e,f,first,a,cells):=by
 have t:∀{α:Type}(m:String),(MonadExcept.throw m:Except String α)=.error m:=λ_=>rfl;unfold World.seen at h ⊢;simp only[bind,Except.bind,pure,Except.pure,t]at h ⊢;by_cases A:(k.spot.isSome||at_.spot.isSome)=true
 .rw[sJ A]at h;cases h
 rw[af A]at h ⊢;cases y:plainCell p p.depth u k.off with
 |none=>rw[y]at h;cases h
 |some j=>
 simp only[y]at h ⊢;cases s:Option.map (λx=>x.length) j.bytes? with
 |none=>rw[s]at h;cases h
 |some size=>
 simp only[s]at h ⊢;cases r:byteOfCell p p.depth u k.off with
 |none=>rw[r]at h;cases h
 |some β=>
 simp only[r]at h ⊢;cases d:w.heap[at_.block]? with
 |none=>rw[d]at h;cases h
 |some o=>
 cases o with
 |cells B b f0=>
  rw[vF z v d];simp only[d]at h ⊢;by_cases q:p.cellsOf b=0
  .rw[sJ q]at h;cases h
  rw[af q]at h ⊢;cases n:byteOfCell p p.depth b (at_.off % p.cellsOf b)with
  |none=>rw[n]at h;cases h
  |some i=>
  simp only[n]at h ⊢;cases g:seenCells p B b (size+1) (at_.off / p.cellsOf b*p.bytesOf b+i+β) (at_.off / p.cellsOf b*p.bytesOf b+i+β+size)with
  |error m=>rw[g]at h;cases h
  |ok l=>
  simp only[g]at h;have D:B=c/\b=e/\f0=f/\at_.off / p.cellsOf b*p.bytesOf b+i+β=first/\j=a/\l=cells:=by
   revert h
   repeat' split
   all_goals intro h
   all_goals first|(cases h;done)|(simp only[Except.ok.injEq,Prod.mk.injEq]at h;exact h)
  obtain⟨rfl,rfl,rfl,rfl,rfl,rfl⟩:=D;rw[Cs v g C];refine⟨rfl,?_⟩;revert h;dsimp only
  repeat' split
  all_goals intro h
  all_goals first|(cases h;done)|rfl
 |_=>rw[d]at h;cases h
def vh{at_:Addr}{u:TypeId}{k:Addr}{atomic:Bool}{t:List Addr}(z:Addr)(v:Value)(h:w.viewLoad p at_ u k atomic=.ok (x,t))(f:∀a∈t,a≠z):
 (w.setCell z v).viewLoad p at_ u k atomic=.ok (x,t):=by
 have a:∀{α:Type}(m:String),(MonadExcept.throw m:Except String α)=.error m:=λ_=>rfl;unfold World.viewLoad at h ⊢;simp only[bind,Except.bind,pure,Except.pure,a]at h ⊢;cases d:w.seen p at_ u k atomic with
 |error m=>simp_all
 |ok r=>
 let⟨c,e,a,first,b,cells⟩:=r;simp only[d]at h;cases g:b.ofBytes (cells.flatMap λy=>(y.2.2.drop (first-y.2.1)).take (first+(b.bytes?.map (·.length)).getD 0-max first y.2.1))with
 |none=>simp_all
 |some y=>
 simp only[g,Except.ok.injEq,Prod.mk.injEq]at h;obtain⟨rfl,rfl⟩:=h;let⟨_,a⟩:=xy z v d λy a=>f _ (gV.2 ⟨y,a,rfl⟩);simp_all
def uI{z:Addr}{v:Value}{b:Nat}{β:Type}{F:Array Value->Nat×β->Except String (Array Value)}(e:∀c a t,({block:=b,off:=t.1}:Addr)≠z->F c t=.ok a->F (Yq z v b c) t=.ok (Yq z v b a)):
 ∀(l:List (Nat×β))(c a:Array Value),(∀t∈l,({block:=b,off:=t.1}:Addr)≠z)->l.foldlM F c=.ok a->l.foldlM F (Yq z v b c)=.ok (Yq z v b a)
 |[],c,a,_,h=>by
  simp only[List.foldlM_nil,pure,Except.pure,Except.ok.injEq]at h ⊢;rw[h]
 |t::l,c,a,d,h=>by
  rw[List.foldlM_cons]at h ⊢;simp only[bind,Except.bind]at h ⊢;cases f:F c t with
  |error m=>simp_all
  |ok g=>
   rw[f]at h;rw[e c g t (d t (bI ..)) f];exact uI e l g a (λt a=>d t (aP _ a)) h
def EC{z:Addr}{b:Nat}{c:Array Value}(a:({block:=b,off:=i}:Addr)≠z):(Yq z v b c)[i]? =c[i]? :=by
 unfold Yq;split
 .split
  .rfl
  .exact ku λe=>a (by cases z;simp_all)
 .rfl
def EB{z:Addr}{b:Nat}{c:Array Value}(a:({block:=b,off:=i}:Addr)≠z):(Yq z v b c).setIfInBounds i x=Yq z v b (c.setIfInBounds i x):=by
 unfold Yq;split
 .split
  .rfl
  .exact Array.setIfInBounds_comm _ _ λe=>a (by cases z;simp_all)
 .rfl
def Dm{z:Addr}{b:Nat}{c:Array Value}{e:TypeId}{f:Nat×Nat}:
 ({w.setCell z v with heap:=(w.setCell z v).heap.setIfInBounds b (.cells (Yq z v b c) e f)}:aj)=World.setCell {w with heap:=w.heap.setIfInBounds b (.cells c e f)} z v:=by
 refine fK (λr=>?_) rfl rfl rfl rfl;rw[heap_set];dsimp only;rw[ze,ze,heap_set];have a:(w.setCell z v).heap.size=w.heap.size:=ψ
 rw[a];by_cases d:b=r
 .subst d;rw[sJ rfl,sJ rfl];by_cases a:b<w.heap.size
  .simp only[a,if_true,fI,mB,Yq];grind
  grind
 simp_all
def sZ{at_:Addr}{u:TypeId}{k:Addr}{atomic:Bool}{t:List Addr}(z:Addr)(v:Value)(h:w.viewStore p at_ u k x atomic=.ok (w',t))(n:∀a∈t,a≠z):
 (w.setCell z v).viewStore p at_ u k x atomic=.ok (w'.setCell z v,t):=by
 have l:∀{α:Type}(m:String),(MonadExcept.throw m:Except String α)=.error m:=λ_=>rfl;unfold World.viewStore at h ⊢;simp only[bind,Except.bind,pure,Except.pure,l]at h ⊢;by_cases B:(!tight p p.depth u)=true
 .simp_all
 rw[af B]at h ⊢;cases i:w.seen p at_ u k atomic with
 |error m=>simp_all
 |ok r=>
 let⟨c,e,C,first,g,cells⟩:=r;simp only[i]at h;cases A:x.bytes? with
 |none=>simp_all
 |some bytes=>
 simp only[A]at h ⊢;split at h
 .cases h
 rename_i s;split at h
 .cases h
 rename_i j o;simp only[Except.ok.injEq,Prod.mk.injEq]at h;obtain⟨rfl,rfl⟩:=h;have b:∀y∈cells,({block:=at_.block,off:=y.1}:Addr)≠z:=λy f=>n _ (gV.2 ⟨y,f,rfl⟩);let⟨_,q⟩:=xy z v i b;rw[q];simp only[s,if_false];rw[uI (b:=at_.block) ?_ cells c j b o]
 .simp only[Except.ok.injEq,Prod.mk.injEq,and_true];exact Dm
 .intro c j y f d;revert d;simp only[EC f]
  repeat' split
  all_goals intro d
  all_goals first|(cases d;done)|(simp only[Except.ok.injEq]at d ⊢;rw[<-d,EB f])
def rA{at_:Addr}{u:TypeId}{k:Addr}{atomic:Bool}{t:List Addr}(h:w.viewStore p at_ u k x atomic=.ok (w',t)):
 ∃c e f,w'={w with heap:=w.heap.setIfInBounds at_.block (.cells c e f)}:=by
 have a:∀{α:Type}(m:String),(MonadExcept.throw m:Except String α)=.error m:=λ_=>rfl;unfold World.viewStore at h;simp only[bind,Except.bind,pure,Except.pure,a]at h;grind
def ir.put{b r:Nat}(h:ir w b){c:Array Value}{e:TypeId}{f:Nat×Nat}:ir {w with heap:=w.heap.setIfInBounds r (.cells c e f)} b:=by
 by_cases x:r=b
 .subst x;exact⟨c,e,f,Lt h.lt⟩
 .let⟨c,b,f0,a⟩:=h;exact⟨c,b,f0,(ku x).trans a⟩
def kH(w:aj)(a:Addr)(m:String):(∀v,w.noCell a m≠.panic v)/\w.noCell a m≠.goexit:=by
 unfold World.noCell;grind
def Me{α:Type}(z:Addr)(v:Value):Result α->Result α
 |.ok a w=>.ok a (w.setCell z v)
 |.halt h w=>.halt h (w.setCell z v)
def Ox{α:Type}:Result α->Prop
 |.ok _ _=>True
 |.halt h _=>(∃v,h=.panic v)\/h=.goexit
def grow{P:aG}{e:Event}:∀(s:Sem α)(w:aj)(es:Array Event),e∈es->e∈(s.runT P w es).2:=by
 intro s;induction s with
 |pure a=>simp
 |load m a k b=>
  intro w es h;unfold Sem.runT;grind
 |store m a x k b=>
  intro w es h;cases x;all_goals (first|exact h|skip)
  all_goals
   simp only[Sem.runT];split
   .split
    .exact h
    .exact b _ _ (Ca _ h)
   .split
    .exact b _ _ (Array.mem_append_left _ h)
    .exact h
 |new o k b=>intro w es h;exact b _ _ _ h
 |shape r k b=>intro w es h;exact b _ _ _ h
 |freeze a n k b=>intro w es h;exact b _ _ h
 |frozen a k b=>intro w es h;exact b _ _ _ h
 |getObj r k b=>
  intro w es h;unfold Sem.runT;grind
 |setObj r o k b=>
  intro w es h;unfold Sem.runT;grind
 |choose q k b=>
  intro w es h;unfold Sem.runT;grind
 |sys c k b=>intro w es h;exact b _ _ _ (Ca _ h)
 |program k b=>intro w es h;exact b _ _ _ h
 |mark m k b=>intro w es h;exact b _ _ (Ca _ h)
 |halt h=>simp
def EY(w:aj)(o:Obj){z:Addr}(v:Value)(a:z.block<w.heap.size):({w.setCell z v with heap:=(w.setCell z v).heap.push o}:aj)=World.setCell {w with heap:=w.heap.push o} z v:=by
 refine fK (λr=>?_) rfl rfl rfl rfl;have a:(w.setCell z v).heap.size=w.heap.size:=ψ
 rw[heap_set];dsimp only;rw[DU,DU,a,heap_set];grind
def ir.push{w:aj}{b:Nat}(h:ir w b)(o:Obj):ir {w with heap:=w.heap.push o} b:=by
 have a:=h.lt;let⟨c,e,f,x⟩:=h;exact⟨c,e,f,χ⟩
def Zi(w:aj)(a:Addr)(n:Nat)(z:Addr)(v:Value):(w.setCell z v).freeze a n=(w.freeze a n).setCell z v:=by
 unfold World.freeze;split
 .rfl
 refine fK (λr=>?_) rfl rfl rfl rfl;rw[heap_set];dsimp only;rw[sU,sU,heap_set];by_cases b:a.block=r<;>by_cases a:z.block=r<;>simp only[b,a,if_true,if_false];cases w.heap[r]? with
 |none=>rfl
 |some o=>
  cases o with
  |cells c e f=>rfl
  |_=>rfl
def ir.freeze{w:aj}{b:Nat}(h:ir w b)(a:Addr)(n:Nat):ir (w.freeze a n) b:=by
 let⟨c,e,f,x⟩:=h;unfold World.freeze;split
 .exact⟨c,e,f,x⟩
 .let⟨lo,d⟩:=f;by_cases f:a.block=b
  .exact⟨c,e,_,by dsimp only;rw[sU,sJ f,x];rfl⟩
  .exact⟨c,e,(lo,d),χ⟩
def Ms(z:Addr)(v:Value):∀(x:Ask α)(w:aj),(w.setCell z v).ask x=((w.ask x).1,(w.ask x).2.setCell z v)/\(w.ask x).2.heap=w.heap:=by
 intro x;induction x with
 |done a=>intro w;exact⟨rfl,rfl⟩
 |ask what range k b=>
  intro w;unfold World.ask;dsimp only;split
  .exact b _ w
  .exact b _ {w with drawn:=w.drawn+1}
def HO(w:aj)(c:Sys)(z:Addr)(v:Value):(w.setCell z v).sys c=((w.sys c).1,(w.sys c).2.setCell z v)/\(w.sys c).2.heap=w.heap:=by
 let⟨b,a⟩:=Ms z v (Kernel.perform c w.os) w;unfold World.sys;have:(w.setCell z v).os=w.os:=rfl;rw[this,b];generalize w.ask (Kernel.perform c w.os)=r at a ⊢;let⟨⟨r,os⟩,b⟩:=r;cases r<;>exact⟨rfl,by first|exact a|rfl⟩
def yl{a:Addr}{m:Bool}{t:List Addr}{z:Addr}(v:Value)(c:ir w z.block)(h:w.farLoad p a m=.ok (x,t))(g:∀b∈t,b≠z):(w.setCell z v).farLoad p a m=.ok (x,t):=by
 unfold World.farLoad at h ⊢;split at h
 .rename_i at_ u f;rw[(nZ z v c f (λ_ _ _ e=>by cases e)).2];split at h
  .rename_i r d;cases h;dsimp only;rw[vh z v d g]
  .cases h
 .cases h
def It{a:Addr}{m:Bool}{t:List Addr}{z:Addr}(v:Value)(d:ir w z.block)(h:w.farStore p a x m=.ok (w',t))(j:∀b∈t,b≠z):(w.setCell z v).farStore p a x m=.ok (w'.setCell z v,t)/\ir w' z.block:=by
 unfold World.farStore at h ⊢;split at h
 .rename_i at_ u i;rw[(nZ z v d i (λ_ _ _ e=>by cases e)).2];split at h
  .rename_i r g;cases h;dsimp only;rw[sZ z v g j];obtain⟨c,e,f,rfl⟩:=rA g;exact⟨rfl,d.put⟩
  .cases h
 .cases h
def Jk{a:Addr}{m:Bool}{h:Halt}(b:w.farLoad p a m=.error h):¬Ox (Result.halt h w':Result α):=by
 unfold World.farLoad at b;split at b
 .split at b
  .cases b
  .cases b;rintro (⟨v,e⟩|e)<;>cases e
 .cases b;rintro (⟨v,e⟩|e)
  .exact(kH w a _).1 v e
  .exact(kH w a _).2 e
def Gn{a:Addr}{m:Bool}{h:Halt}(b:w.farStore p a x m=.error h):¬Ox (Result.halt h w':Result α):=by
 unfold World.farStore at b;split at b
 .split at b
  .cases b
  .cases b;rintro (⟨v,e⟩|e)<;>cases e
 .cases b;rintro (⟨v,e⟩|e)
  .exact(kH w a _).1 v e
  .exact(kH w a _).2 e
def run_set{P:aG}{z:Addr}(v:Value):∀(s:Sem α)(w:aj)(es:Array Event),ir w z.block->Ox (s.runT P w es).1->(∀e∈(s.runT P w es).2,e.loc≠.cell z)->
 s.runT P (w.setCell z v) es=(Me z v (s.runT P w es).1,(s.runT P w es).2):=by
 intro s;induction s with
 |pure a=>intro w es g d f;rfl
 |load m a k j=>
  intro w es g d f;unfold Sem.runT at d f ⊢;cases u:w.cell? a with
  |some x=>
   simp only[u]at d f ⊢;have E:a≠z:=λe=>f _ (grow (k x) _ _ (Array.mem_push_self ..)) (by rw[e]);rw[qa _ _ _ _ (λe=>E e.symm),u];grind
  |none=>
   simp only[u,uR w a z v u]at d f ⊢;cases l:w.farLoad P a (m==.atomic)with
   |error h=>simp only[l]at d;exact absurd d (Jk l)
   |ok r=>
    let⟨x,t⟩:=r;simp only[l]at d f ⊢;rw[yl v g l λb I e=>f _ (grow (k x) _ _ (Array.mem_append_right _ (Array.mem_map.2 ⟨b,ξ,rfl⟩))) (by rw[e])];grind
 |store m a x k j=>
  intro w es g d f;cases x;all_goals (first|rfl|skip)
  all_goals
   simp only[Sem.runT]at d f ⊢;cases u:w.cell? a with
   |some y=>
    simp only[u]at d f ⊢;by_cases B:w.frozen? a=true
    .rw[sJ B]at d;exact absurd d (by rintro (⟨v,e⟩|e)<;>cases e)
    rw[af B]at d f;have E:a≠z:=λe=>f _ (grow k _ _ (Array.mem_push_self ..)) (by rw[e]);rw[qa _ _ _ _ (λe=>E e.symm),u];simp only[YB,B];rw[vC w _ v E];exact j _ _ (g.set a _) d f
   |none=>
    simp only[u,uR w a z v u]at d f ⊢;split at d
    .rename_i N t l;simp only[l]at f ⊢;let⟨C,J⟩:=It v g l λb I e=>f _ (grow k _ _ (Array.mem_append_right _ (Array.mem_map.2 ⟨b,by simpa using I,rfl⟩))) (by rw[e]);rw[C];exact j _ _ J d f
    .rename_i h l;exact absurd d (Gn l)
 |new o k j=>
  intro w es g d f;simp only[Sem.runT]at d f ⊢;have A:(w.setCell z v).heap.size=w.heap.size:=ψ
  rw[EY w o v g.lt,A];exact j _ _ _ (g.push o) d f
 |shape r k j=>
  intro w es g d f;simp only[Sem.runT,Cj]at d f ⊢;grind
 |freeze a n k j=>
  intro w es g d f;simp only[Sem.runT,Zi]at d f ⊢;exact j _ _ (g.freeze a n) d f
 |frozen a k j=>
  intro w es g d f;simp only[Sem.runT,YB]at d f ⊢;grind
 |getObj r k j=>
  intro w es g d f;unfold Sem.runT at d f ⊢;cases p:w.heap[r]? with
  |none=>simp only[p]at d;exact absurd d (by rintro (⟨v,e⟩|e)<;>cases e)
  |some o=>
   cases o
   case cells=>simp only[p]at d;exact absurd d (by rintro (⟨v,e⟩|e)<;>cases e)
   all_goals
    rw[(nZ z v g p (λ_ _ _ e=>by cases e)).2];simp only[p]at d f ⊢;exact j _ _ _ g d f
 |setObj r o k j=>
  intro w es g d f;unfold Sem.runT at d f ⊢;cases p:w.heap[r]? with
  |none=>simp only[p]at d;exact absurd d (by rintro (⟨v,e⟩|e)<;>cases e)
  |some L=>
   cases L
   case cells=>simp only[p]at d;exact absurd d (by rintro (⟨v,e⟩|e)<;>cases e)
   all_goals
    let⟨D,F⟩:=nZ z v g p (λ_ _ _ e=>by cases e);rw[F];simp only[p]at d f ⊢;have M:({w.setCell z v with heap:=(w.setCell z v).heap.setIfInBounds r o}:aj)=World.setCell {w with heap:=w.heap.setIfInBounds r o} z v:=by
     refine fK (λi=>?_) rfl rfl rfl rfl;have A:(w.setCell z v).heap.size=w.heap.size:=by simp[World.setCell]
     rw[heap_set];dsimp only;rw[ze,ze,heap_set,A];by_cases C:r=i
     .subst C;simp only[if_true,af D]
     .rw[af C,af C]
    rw[M];refine j _ _ ?_ d f;let⟨H,G,f0,K⟩:=g;exact⟨H,G,f0,(ku (λe=>D e.symm)).trans K⟩
 |choose q k j=>
  intro w es g d f;unfold Sem.runT at d f ⊢;by_cases h:q.forced=true
  .grind
  .simp only[h,if_false,sP]at d f ⊢;exact j _ {w with drawn:=w.drawn+1} _ g d f
 |sys c k j=>
  intro w es g d f;unfold Sem.runT at d f ⊢;let⟨C,J⟩:=HO w c z v;rw[C];refine j _ _ _ ?_ d f;let⟨H,G,f0,K⟩:=g;exact⟨H,G,f0,ξ⟩
 |program k j=>
  intro w es g d f;simp only[Sem.runT]at d f ⊢;grind
 |mark m k j=>
  intro w es g d f;simp only[Sem.runT]at d f ⊢;grind
 |halt h=>intro w es g d f;rfl
def JW(D:World->World->Array Event->Prop)(z:Addr):Prop:=∀w w' es,D w w' es->∀e∈es,e.loc≠.cell z
def JZ(P:aG)(J:Bool)(D:World->World->Array Event->Prop)(V:gi)(g:aV)(w:aj):Prop:=
 ∃g' w' es,stepG P J g w=.go g' w' es/\D w w' es/\V g' w'/\∀z v,JW D z->ir w z.block->stepG P J g (w.setCell z v)=.go g' (w'.setCell z v) es
def JZ.mono{P:aG}{a:gi}(h:JZ P J D V g w)(b:∀g w,V g w->a g w):JZ P J D a g w:=by
 let⟨g',w',es,e,d,c,a⟩:=h;exact⟨g',w',es,e,d,b _ _ c,a⟩
structure aB(P:aG)(J:Bool)(D:World->World->Array Event->Prop)(V:gi):Prop where
 at':∀g w d,V g w->V g (w.at d)
 idle:∀w d,D w (w.at d) #[]
 less:∀w w' es TK,D w w' es->(∀e∈TK,e∈es)->D w w' TK
 step:∀g w,g.status=.running->(∀d,JZ P J D V g (w.at d))->V g w
def raw(P:aG)(a:Act)(o:Oper)(w:aj):Array Event:=(execOp a.eval o).events P w #[]
def mem_listed{P:aG}{a:Act}{e:Event}(h:e∈raw P a o w):e∈(execOp a.eval o).events P w #[]:=h
def rP{P:aG}{a:Act}{x:Next}{z:Addr}(v:Value)(b:(execOp a.eval o).run P w=.ok x w')(d:∀e∈raw P a o w,e.loc≠.cell z)(c:ir w z.block):
 (execOp a.eval o).run P (w.setCell z v)=.ok x (w'.setCell z v)/\raw P a o (w.setCell z v)=raw P a o w:=by
 have h:=run_set v (execOp a.eval o) w #[] c (by rw[fH,b];trivial) d;constructor
 .rw[<-fH (es:=#[]),h,fH,b];rfl
 .unfold raw Sem.events;rw[h]
section
variable{P:aG}{a:Act}{k:eC}
def aB.ctl(F:aB P J D V){c a:aC}{b:cO}(h:∀w,stepG P J (G c X) w=.go (G a b) w #[])(d:V (G a b) w):V (G c X) w:=
 F.step _ _ rfl λ_=>⟨_,_,_,h _,F.idle _ _,F.at' _ _ _ d,λ_ _ _ _=>h _⟩
def rV{e:Event}{fn:FuncId}(h:e∈listed P fn a o w):e∈raw P a o w:=Ly h
def aB.W6(F:aB P J D V)(m:E[i]? =some o)(l:Region.wanted o (yielded E a.tmps)=true)(n:b.kind≠.early)(h:∀d,∀K:Act->World->Prop,(∀j w',D (w.at d) w' (raw P a o (w.at d))/\V (G (b.at j (.inRegion E rest::k)) X) w'->K j w')->uponK o a K ((execOp a.eval o).run P (w.at d))):
 V (G (b.at a (.inRegion E (i::rest)::k)) X) w:=
 F.step _ _ rfl λd=>by
  have c:=h d (λj W=>D (w.at d) W (raw P a o (w.at d))/\V (G (b.at j (.inRegion E rest::k)) X) W) λj w' x=>x;cases f:(execOp a.eval o).run P (w.at d)with
  |halt _ _=>rw[f]at c;exact c.elim
  |ok x a=>
   rw[f]at c;cases x
   case value v=>
    refine⟨_,_,_,stepG_value m l n f,F.less _ _ _ _ c.1 λe b=>rV b,c.2,λz v a d=>?_⟩;let⟨h,g⟩:=rP v f (a _ _ _ c.1) d;rw[stepG_value m l n h];unfold listed;unfold raw at g;rw[g]
   case skip=>
    refine⟨_,_,_,stepG_none m l n f,F.less _ _ _ _ c.1 λe b=>rV b,c.2,λz v a d=>?_⟩;let⟨h,g⟩:=rP v f (a _ _ _ c.1) d;rw[stepG_none m l n h];unfold listed;unfold raw at g;rw[g]
   all_goals exact c.elim
def aB.op(F:aB P J D V)(f:E[i]? =some o)(e:Region.wanted o (yielded E a.tmps)=true)(g:b.kind≠.early)(h:∀d,∀K:Act->World->Prop,(∀c w',D (w.at d) (w'.at d) (raw P a o (w.at d))/\V (G (b.at c (.inRegion E rest::k)) X) w'->K c (w'.at d))->uponK o a K ((execOp a.eval o).run P (w.at d))):
 V (G (b.at a (.inRegion E (i::rest)::k)) X) w:=
 F.W6 f e g λd K a=>h d K λc w' x=>a c _ ⟨x.1,F.at' _ _ _ x.2⟩
def aB.AZ(F:aB P J D V)(f:E[i]? =some o)(e:Region.wanted o (yielded E a.tmps)=true)(g:b.kind≠.early)(j:∀d,(execOp a.eval o).events P (w.at d) #[]=#[])(h:∀d,∀K:Act->World->Prop,(∀c,V (G (b.at c (.inRegion E rest::k)) X) w->K c (w.at d))->uponK o a K ((execOp a.eval o).run P (w.at d))):
 V (G (b.at a (.inRegion E (i::rest)::k)) X) w:=
 F.op f e g λd K a=>h d K λc x=>a c w ⟨by unfold raw;rw[j d];exact F.idle _ _,x⟩
def aB.unwanted(F:aB P J D V)(d:E[i]? =some o)(c:Region.wanted o (yielded E a.tmps)=false)(h:V (G (b.at (a.put o.dst undef) (.inRegion E rest::k)) X) w):V (G (b.at a (.inRegion E (i::rest)::k)) X) w:=
 F.ctl (λ_=>stepG_unwanted d c) h
def late(b:aC):Bool:=match b.kind with|.early=>false|_=>true
def iP(h:late b=true):b.kind≠.early:=λz=>by rw[late,z]at h;cases h
def aB.oq(F:aB P J D V)(f:E[i]? =some o)(e:Region.wanted o (yielded E a.tmps)=true)(g:late b=true)(j:∀d,(execOp a.eval o).events P (w.at d) #[]=#[])(h:∀d,∀K:Act->World->Prop,(∀c,V (G (b.at c (.inRegion E rest::k)) X) w->K c (w.at d))->uponK o a K ((execOp a.eval o).run P (w.at d))):
 V (G (b.at a (.inRegion E (i::rest)::k)) X) w:=F.AZ f e (iP g) j h
def aB.aJ(F:aB P J D V)(f:V (G (b.at A (.inRegion E rest::k)) X) w)(e:E[i]? =some o:=by exact rfl)(c:Region.wanted o (yielded E a.tmps)=true:=by exact rfl)(g:late b=true:=by exact rfl)(j:∀d,(execOp a.eval o).events P (w.at d) #[]=#[]:=by simp[go_sem])(h:∀d,∀K:Act->World->Prop,K A (w.at d)->uponK o a K ((execOp a.eval o).run P (w.at d)):=by intro d K h;go_simp;(try walk_nrm);exact h):
 V (G (b.at a (.inRegion E (i::rest)::k)) X) w:=F.oq e c g j λd K a=>h d K (a A f)
def aB.dK(F:aB P J D V)(h:V (G (b.at A (.inRegion E rest::k)) X) w)(d:E[i]? =some o:=by exact rfl)(c:Region.wanted o (yielded E a.tmps)=false:=by exact rfl)(e:a.put o.dst undef=A:=by walk_nrm;exact rfl):V (G (b.at a (.inRegion E (i::rest)::k)) X) w:=F.unwanted d c (e▸h)
def ZP:(∀l:List Value,l.toArray.size=l.length)/\(∀(a:Value)(l:List Value),(a::l).length=l.length+1)/\([]:List Value).length=0/\(∀(n:Nat)(a:Value),Array.replicate (n+1) a=(Array.replicate n a).push a)/\(∀a:Value,Array.replicate 0 a=#[])/\(∀(l:List Value)(a:Value),l.toArray.push a=(l++[a]).toArray)/\(∀l k:List Value,l.toArray++k.toArray=(l++k).toArray)/\(∀l:List Value,[]++l=l)/\(∀(a:Value)(l k:List Value),a::l++k=a::(l++k)):=
 ⟨λ_=>ψ,λ_ _=>rfl,rfl,λ_ _=>Array.replicate_succ,λ_=>rfl,λ_ _=>ψ,λ_ _=>ψ,λ_=>rfl,λ_ _ _=>rfl⟩
def rg:List Oper->Nat->List Nat
 |[],_=>[]
 |_::l,n=>n::rg l (n+1)
def xG(l:List Oper):List.range l.toArray.size=rg l 0:=by
 have h:∀(l:List Oper)(n:Nat),rg l n=List.range' n l.length:=by
  intro l;induction l with
  |nil=>intro n;rfl
  |cons x l a=>intro n;simp[rg,a,List.range'_succ]
 rw[h,List.range_eq_range'];simp
def no{x:Bool}{p:Prop}(h:x=false)(a:x=true):p:=ξ
def dy{x y:Bool}(h:x=true->y=true)(a:y=false):x=false:=by
 simp_all
def aB.re(F:aB P J D V)(h:V (G (b.at a (k)) X) w):V (G (b.at a (.inRegion E []::k)) X) w:=F.ctl (λ_=>stepG_region_end) h
def aB.sq(F:aB P J D V){x y:Code}(h:V (G (b.at a (.code x::.code y::k)) X) w):V (G (b.at a (.code (.seq x y)::k)) X) w:=F.ctl (λ_=>stepG_seq) h
def aB.rr(F:aB P J D V){id:Nat}(h:V (G (b.at a (.inRegion l.toArray (rg l 0)::k)) X) w):V (G (b.at a (.code (.region id l.toArray false)::k)) X) w:=F.ctl (λ_=>stepG_region) (by rw[xG];exact h)
def aB.sr(F:aB P J D V){id:Nat}{y:Code}(h:V (G (b.at a (.inRegion l.toArray (rg l 0)::.code y::k)) X) w):V (G (b.at a (.code (.seq (.region id l.toArray false) y)::k)) X) w:=F.sq (F.rr h)
def aB.es(F:aB P J D V){x y:Code}(h:V (G (b.at a (.code x::.code y::k)) X) w):V (G (b.at a (.inRegion E []::.code (.seq x y)::k)) X) w:=F.re (F.sq h)
def aB.er(F:aB P J D V){id:Nat}(h:V (G (b.at a (.inRegion l.toArray (rg l 0)::k)) X) w):V (G (b.at a (.inRegion E []::.code (.region id l.toArray false)::k)) X) w:=F.re (F.rr h)
def aB.V8(F:aB P J D V){id:Nat}{y:Code}(h:V (G (b.at a (.inRegion l.toArray (rg l 0)::.code y::k)) X) w):V (G (b.at a (.inRegion E []::.code (.seq (.region id l.toArray false) y)::k)) X) w:=F.re (F.sr h)
def aB.zA(F:aB P J D V){id:Nat}(h:V (G (b.at a (.inRegion l.toArray r::k)) X) w)(c:rg l 0=r:=by simp only[rg,Nat.reduceAdd];exact rfl):V (G (b.at a (.code (.region id l.toArray false)::k)) X) w:=F.rr (c▸h)
def aB.cF(F:aB P J D V){id:Nat}{y:Code}(h:V (G (b.at a (.inRegion l.toArray r::.code y::k)) X) w)(c:rg l 0=r:=by simp only[rg,Nat.reduceAdd];exact rfl):V (G (b.at a (.code (.seq (.region id l.toArray false) y)::k)) X) w:=F.sr (c▸h)
def aB.CZ(F:aB P J D V){id:Nat}(h:V (G (b.at a (.inRegion l.toArray r::k)) X) w)(c:rg l 0=r:=by simp only[rg,Nat.reduceAdd];exact rfl):V (G (b.at a (.inRegion E []::.code (.region id l.toArray false)::k)) X) w:=F.er (c▸h)
def aB.dA(F:aB P J D V){id:Nat}{y:Code}(h:V (G (b.at a (.inRegion l.toArray r::.code y::k)) X) w)(c:rg l 0=r:=by simp only[rg,Nat.reduceAdd];exact rfl):V (G (b.at a (.inRegion E []::.code (.seq (.region id l.toArray false) y)::k)) X) w:=F.V8 (c▸h)
def aB.cf(F:aB P J D V){c:Operand}{x y:Code}(e:a.eval c=.bool false)(h:V (G (b.at a (.code y::k)) X) w):V (G (b.at a (.code (.cond c x y)::k)) X) w:=F.ctl (λ_=>stepG_cond (t:=false) e) h
def aB.ct(F:aB P J D V){c:Operand}{x y:Code}(e:a.eval c=.bool true)(h:V (G (b.at a (.code x::k)) X) w):V (G (b.at a (.code (.cond c x y)::k)) X) w:=F.ctl (λ_=>stepG_cond (t:=true) e) h
def aB.sk(F:aB P J D V)(h:V (G (b.at a (k)) X) w):V (G (b.at a (.code .skip::k)) X) w:=F.ctl (λ_=>stepG_skip) h
def aB.bl(F:aB P J D V){id:Nat}{c:Code}(h:V (G (b.at a (.code c::.inBlock id::k)) X) w):V (G (b.at a (.code (.block id c)::k)) X) w:=F.ctl (λ_=>stepG_block) h
def aB.ib(F:aB P J D V){id:Nat}(h:V (G (b.at a (k)) X) w):V (G (b.at a (.inBlock id::k)) X) w:=F.ctl (λ_=>stepG_inBlock) h
def fG(P:aG)(J:Bool)(D:World->World->Array Event->Prop)(f:FuncId)(args:Array Value)(w:aj)(Post:qz):Prop:=
 ∀V,aB P J D V->∀c X,(∀v w',Post v w'->V (G (c.finish v) X) w')->V (G (Frame.enter P f args .normal) (c::X)) w
def aB.enter(F:aB P J D V){f:FuncId}{args:Array Value}(j:E[i]? =some o)(c:Region.wanted o (yielded E a.tmps)=true)(l:b.kind≠.early)(g:∀d,(execOp a.eval o).run P (w.at d)=.ok (.enter f args) (w.at d))(m:∀d,(execOp a.eval o).events P (w.at d) #[]=#[])(h:V (G (Frame.enter P f args .normal) (b.at a (.inRegion E (i::rest)::k)::X)) w):V (G (b.at a (.inRegion E (i::rest)::k)) X) w:=
 F.step _ _ rfl λd=>⟨_,w.at d,_,by rw[stepG_enter j c l (g d),listed_nil (m d)],F.idle _ _,F.at' _ _ _ h,λz v _ a=>by
  let⟨f,b⟩:=rP (z:=z) v (g d) (λe n=>by unfold raw at n;simp_all) a;rw[stepG_enter j c l f,listed_nil (b.trans (m d))]⟩
def aB.g9(F:aB P J D V){d:eC}{c:aC}(f:b.kind=.normal)(i:a.defers=[])(g:P.funcs[b.fn]? =some fn)(e:ResultsC P fn a.tmps v)(h:V (G (c.finish v) X) w):V (G {b.at a d with mode:=.returning} (c::X)) w:=
 F.step _ _ rfl λ_=>⟨_,_,_,stepG_leave f i g (e _).1 (e _).2,F.idle _ _,F.at' _ _ _ h,λ_ _ _ _=>stepG_leave f i g (e _).1 (e _).2⟩
def aB.uO(F:aB P J D V){f:FuncId}{args:Array Operand}{d:Array TypeId}{A:Array Value}(e:P.funcs[f]? =some fn)(h:V (G (Frame.enter P f A .normal) (b.at a (.inRegion E (i::rest)::k)::X)) w)(j:E[i]? =some o:=by exact rfl)(g:Region.wanted o (yielded E a.tmps)=true:=by exact rfl)(l:late b=true:=by exact rfl)(c:o.op=.call {callee:=.value (.func f),args,argTypes:=d}:=by exact rfl)(d:(fn.name== "runtime.NumGoroutine")=false:=by exact rfl)(f:fn.body.isNone=false:=by exact rfl)(m:args.map a.eval=A:=by walk_nrm;exact rfl):V (G (b.at a (.inRegion E (i::rest)::k)) X) w:=
 F.enter j g (iP l) (λ_=>m▸run_call_body c e d f) (λ_=>events_call_body c e d f _) h
def aB.tC(F:aB P J D V){t:Tmp}{c:aC}(f:P.funcs[b.fn]? =some fn)(h:V (G (c.finish (a.tmps.getD t undef)) X) w)(e:b.kind=.normal:=by exact rfl)(g:a.defers=[]:=by exact rfl)(d:fn.results=#[.tmp t]:=by exact rfl):V (G (b.at a (.inRegion E []::.code .ret::k)) (c::X)) w:=F.re (F.ctl (λ_=>stepG_ret') (F.g9 e g f (resultsC_tmp d _) h))
def aB.Du(F:aB P J D V){c:aC}(f:P.funcs[b.fn]? =some fn)(h:V (G (c.finish (.tuple #[])) X) w)(e:b.kind=.normal:=by exact rfl)(g:a.defers=[]:=by exact rfl)(d:fn.results=#[]:=by exact rfl):V (G (b.at a [.inRegion E []]) (c::X)) w:=F.re (F.ctl (λ_=>stepG_end) (F.g9 e g f (resultsC_none d _) h))
end
def gG:∀(l:List Bool)(i:Nat)(h:i<l.length),l[i]=false->((l.set i true).filter id).length=(l.filter id).length+1
 |x::a,0,_,h=>by
  simp_all
 |x::a,i+1,h,b=>by
  have b:=gG a i χ ξ;grind
section
variable{P:aG}{k:eC}
def Bb(md:Region.Mode)(l:Array Bool)(h:∀j,j<E.size->l.getD j true=true)(a t:Nat):Region.linearise.go md E a t l []=[]:=by
 cases a with
 |zero=>rfl
 |succ a=>
  have a:((List.range E.size).filter λi=>!l.getD i true&&((E[i]?).map (·.after.all λe=>!Region.binds md e||l.getD e.on false)).getD false)=[]:=by
   simp_all
  simp only[Region.linearise.go,a];simp
def Jp(md:Region.Mode)(I:Array Bool->Act->World->Prop)(K:∀(i:Nat)(o:Oper),E[i]? =some o->∀e∈o.after,Region.binds md e=true->e.on<i)(K:∀l a w,I l a w->l.size=E.size)(g:∀(l:Array Bool)(a:Act)(w:aj)(i:Nat)(o:Oper),I l a w->E[i]? =some o->l.getD i true=false->(∀e∈o.after,Region.binds md e=true->l.getD e.on false=true)->∀rest,((∀j,j<E.size->j≠i->l.getD j true=true)->rest=[])->
 (∀D w',I (l.setIfInBounds i true) D w'->V (G (b.at D (.inRegion E rest::k)) X) w')->V (G (b.at a (.inRegion E (i::rest)::k)) X) w)(f:∀l a w,I l a w->(∀i,i<E.size->l.getD i true=true)->V (G (b.at a (.inRegion E []::k)) X) w):
 ∀(c t:Nat)(l:Array Bool)(a:Act)(w:aj),I l a w->(∃m,m+c=E.size/\(l.toList.filter id).length=m)->V (G (b.at a (.inRegion E (Region.linearise.go md E c t l [])::k)) X) w:=by
 intro c;have y:∀l a w,I l a w->((List.range E.size).filter λi=>!l.getD i true&&((E[i]?).map (·.after.all λe=>!Region.binds md e||l.getD e.on false)).getD false)=[]->∀i,i<E.size->l.getD i true=true:=by
  intro l a w p J i;induction i using Nat.strongRecOn with
  |_ i H=>
   intro A;by_cases h:l.getD i true=true
   .exact h
   have d:i∈((List.range E.size).filter λi=>!l.getD i true&&((E[i]?).map (·.after.all λe=>!Region.binds md e||l.getD e.on false)).getD false):=by
    grind
   grind
 induction c with
 |zero=>
  intro t l a w p ⟨m,M,L⟩;simp only[Region.linearise.go,List.reverse_nil];refine f l a w p λi A=>?_;have b:l.toList.length=E.size:=χ
  have b:(l.toList.filter id).length=l.toList.length:=ω
  have:=TS.1 b;have b:i<l.size:=χ
  have h:=this l[i] ψ;simp only[Array.getD,b,mJ];simpa using h
 |succ c H=>
  intro t l a w p ⟨m,M,L⟩;simp only[Region.linearise.go];generalize r:((List.range E.size).filter λi=>!l.getD i true&&((E[i]?).map (·.after.all λe=>!Region.binds md e||l.getD e.on false)).getD false)=q;cases A:q[t % q.length]? with
  |none=>
   have s:q=[]:=by
    cases q with
    |nil=>rfl
    |cons x F=>
     have u:t % (x::F).length<(x::F).length:=Nat.mod_lt _ ψ;grind
   simp only[List.reverse_nil];exact f l a w p (y l a w p (r.trans s))
  |some i=>
   have d:i∈q:=sQ A;rw[<-r]at d;let⟨J,B⟩:=mK.1 d;have u:i<E.size:=aZ.1 J;have b:E[i]? =some E[i]:=iz u;simp only[b,fI,cQ,bZ,mA,yJ]at B;simp only;rw[linearise_go_acc,LH,LC];refine g l a w i E[i] p b B.1 (λe a a=>?_) _ (λz=>Bb md _ (λj N=>?_) _ _) λD w' C=>?_
   .grind
   .have n:i<l.size:=χ
    by_cases v:j=i
    .subst v;simp
    .have:=z j N v;rw[oK]at this ⊢;grind
   .refine H _ _ _ _ C ⟨m+1,ω,?_⟩;have n:i<l.size:=χ
    have a:l[i]=false:=by have:=B.1;simpa [Array.getD,n]using this
    rw[zd];exact L▸gG l.toList i n a
end
def aB.draw{P:aG}{k:eC}{id:Nat}{a:Act}(F:aB P J D V)(m:P.follows .mixedOrders=true)(I:Array Bool->Act->World->Prop)(f:∀(i:Nat)(o:Oper),E[i]? =some o->∀e∈o.after,Region.binds .any e=true->e.on<i)(g:∀l a w,I l a w->l.size=E.size)(n:I (Array.replicate E.size false) a w)(c:∀(l:Array Bool)(a:Act)(w:aj)(i:Nat)(o:Oper),I l a w->E[i]? =some o->l.getD i true=false->(∀e∈o.after,Region.binds .any e=true->l.getD e.on false=true)->∀rest,((∀j,j<E.size->j≠i->l.getD j true=true)->rest=[])->
 (∀h w',I (l.setIfInBounds i true) h w'->V (G (b.at h (.inRegion E rest::k)) X) w')->V (G (b.at a (.inRegion E (i::rest)::k)) X) w)(e:∀l a w,I l a w->(∀i,i<E.size->l.getD i true=true)->V (G (b.at a (.inRegion E []::k)) X) w):
 V (G (b.at a (.code (.region id E true)::k)) X) w:=by
 refine F.step _ _ rfl λd=>⟨_,_,_,stepG_region_draw,F.idle _ _,?_,λz v _ _=>stepG_region_draw⟩
 show V _ (w.at (d+1));refine F.at' _ _ _ ?_;simp only[Region.schedule,m,ue,if_true,Region.linearise];exact Jp .any I f g c e _ _ _ _ _ n ⟨0,ψ,ψ⟩
def G4(Ok:Addr->Bool->Prop)(w':aj)(e:Event):Prop:=(∃a:Addr,e.loc=.cell a/\e.sync=e.sync/\Ok a e.write/\a.block<w'.heap.size)\/e=noRoomEvent
structure DX(Ok:Addr->Bool->Prop)(w w':aj)(es:Array Event):Prop where
 ev:∀e∈es,G4 Ok w' e
 size:w.heap.size<=w'.heap.size
 obj:∀(c:Nat)(o:Obj),w.heap[c]? =some o->(∀X t f,o≠Obj.cells X t f)->w'.heap[c]? =some o
 cell:∀a:Addr,¬Ok a true->a.block<w.heap.size->w'.cell? a=w.cell? a/\w'.frozen? a=w.frozen? a
 blk:∀k:Nat,k<w.heap.size->(∀a:Addr,a.block=k->¬Ok a true)->w'.heap[k]? =w.heap[k]?
 rest:w'.os=w.os/\w'.tape=w.tape/\w'.output=w.output
section
variable{es:Array Event}
def DX.idle(w:aj)(d:Nat):DX Ok w (w.at d) #[]:=⟨ψ,az _,λ_ _ h _=>h,λ_ _ _=>⟨rfl,rfl⟩,λ_ _ _=>rfl,rfl,rfl,rfl⟩
def DX.less{a:Array Event}(h:DX Ok w w' es)(b:∀e∈a,e∈es):DX Ok w w' a:=⟨λe a=>h.ev e (b e a),h.size,h.obj,h.cell,h.blk,h.rest⟩
def yE:∀w w' es a,DX Ok w w' es->(∀e∈a,e∈es)->DX Ok w w' a:=λ_ _ _ _ h a=>h.less a
def DX.still(d:Nat)(h:∀e∈es,G4 Ok (w.at d) e):DX Ok (w.at d) (w.at d) es:=⟨h,az _,λ_ _ h _=>h,λ_ _ _=>⟨rfl,rfl⟩,λ_ _ _=>rfl,rfl,rfl,rfl⟩
def au{a:Addr}(h:w.cell? a=some v):a.block<w.heap.size:=by
 unfold World.cell? at h;grind
def DX.set{a:Addr}(d:Nat)(ok:Ok a true)(h:∀e∈es,G4 Ok ((w.setCell a v).at d) e):DX Ok (w.at d) ((w.setCell a v).at d) es:=by
 refine⟨h,by show w.heap.size<=(w.setCell a v).heap.size;simp,λc o f b=>?_,λx d g=>?_,λk g b=>Below.heap_setCell w a v k (λe=>b a e.symm ok),rfl,rfl,rfl⟩
 .show(w.setCell a v).heap[c]? =some o;have b:w.heap[c]? =some o:=f;simp only[World.setCell,sU,b];simp
 .have b:a≠x:=λe=>d (e▸ok);exact⟨qa _ _ _ _ b,YB _ _ _ _⟩
def DX.alloc(d:Nat)(o:Obj)(h:∀e∈es,G4 Ok ((w.alloc o).at d) e):DX Ok (w.at d) ((w.alloc o).at d) es:=by
 refine⟨h,by show w.heap.size<=(w.alloc o).heap.size;simp,λc x d _=>?_,λx _ b=>?_,λk a _=>Below.heap_alloc w o k a,rfl,rfl,rfl⟩
 .have a:w.heap[c]? =some x:=d;show(w.alloc o).heap[c]? =some x;rw[Below.heap_alloc _ _ _ ((cU.1 a).1)];exact a
 .have a:x.block<w.heap.size:=b;exact⟨Hx _ _ _ a,World.frozen?_alloc_past _ _ _ a⟩
end
def aB.ol{P:aG}{a:Act}{k:eC}(F:aB P J (DX Ok) V)(g:E[i]? =some o)(f:Region.wanted o (yielded E a.tmps)=true)(j:late b=true)(h:∀d,∀K:Act->World->Prop,(∀c,(∀e∈(execOp a.eval o).events P (w.at d) #[],G4 Ok (w.at d) e)->V (G (b.at c (.inRegion E rest::k)) X) w->K c (w.at d))->uponK o a K ((execOp a.eval o).run P (w.at d))):
 V (G (b.at a (.inRegion E (i::rest)::k)) X) w:=
 F.op g f (iP j) λd K a=>h d K λc b x=>a c w ⟨DX.still _ λe a=>b e (mem_listed a),x⟩
def Rt{a:Addr}{wr b:Bool}(h:w.cell? a=some v)(ok:Ok a wr):G4 Ok (w.at d) ⟨.cell a,wr,b⟩:=.inl ⟨a,rfl,rfl,ok,au h⟩
def aB.ow{P:aG}{a:Act}{k:eC}(F:aB P J (DX Ok) V)(g:V (G (b.at A (.inRegion E rest::k)) X) w)(f:E[i]? =some o:=by exact rfl)(c:Region.wanted o (yielded E a.tmps)=true:=by exact rfl)(j:late b=true:=by exact rfl)(l:∀d,∀e∈(execOp a.eval o).events P (w.at d) #[],G4 Ok (w.at d) e:=by intro d e m;simp[go_sem, *]at m;subst m;exact Rt (by assumption) (by first|assumption|exact ‹∀a:Addr,a.block=_->_› _ rfl|exact ‹∀(a:Addr)(wr:Bool),_<=a.block->_› _ _ (by dsimp only;omega)))(h:∀d,∀K:Act->World->Prop,K A (w.at d)->uponK o a K ((execOp a.eval o).run P (w.at d)):=by intro d K h;go_simp;(try walk_nrm);exact h):V (G (b.at a (.inRegion E (i::rest)::k)) X) w:=F.ol f c j λd K n=>h d K (n A (l d) g)
def aB.GV{P:aG}{a:Act}{k:eC}(F:aB P J (DX Ok) V){q:Obj}(g:V (G (b.at A (.inRegion E rest::k)) X) (w.alloc q))(f:E[i]? =some o:=by exact rfl)(c:Region.wanted o (yielded E a.tmps)=true:=by exact rfl)(j:late b=true:=by exact rfl)(l:∀d,(execOp a.eval o).events P (w.at d) #[]=#[]:=by simp[go_sem])(h:∀d,∀K:Act->World->Prop,K A ((w.alloc q).at d)->uponK o a K ((execOp a.eval o).run P (w.at d)):=by intro d K h;go_simp;rw[alloc_at'];(try walk_nrm);exact h):V (G (b.at a (.inRegion E (i::rest)::k)) X) w:=F.op f c (iP j) λd K a=>h d K (a _ _ ⟨DX.alloc _ _ λe m=>by unfold raw at m;rw[l d]at m;simp at m,g⟩)
def Acc(O:dm)(h:Nat)(t:Trace)(i:Nat):Prop:=
 i<t.size/\(Knows t h i\/∃a,touchAt t i=some a/\a.kind=.atomic/\O a.loc/\¬t.heard i)/\∀a,touchAt t i=some a->O a.loc->a.kind≠.plain/\(a.kind=.said->t.g? i=some 0)
section
variable{O:dm}{B:Nat}{t:Trace}
def Acc.app{i:Nat}(H:Acc O h t i)(u:Trace):Acc O h (t++u) i:=by
 let⟨b,d,e⟩:=H;refine⟨θ,d.imp (Knows.app u) fun⟨a,c,f,e,d⟩=>⟨a,by rw[touchAt_old b];exact c,f,e,λz=>d ((heard_old b).1 z)⟩,λa c a=>?_⟩;rw[touchAt_old b]at c;rw[g?_old b];simp_all
def Acc.to(H:Acc O h t i)(e:Knows t h i->Knows (t++u) j i):Acc O j (t++u) i:=by
 let⟨b,c,f⟩:=H;refine⟨θ,c.imp e fun⟨a,d,f,e,c⟩=>⟨a,by rw[touchAt_old b];exact d,f,e,λz=>c ((heard_old b).1 z)⟩,λa d a=>?_⟩;rw[touchAt_old b]at d;rw[g?_old b];simp_all
def wE(O U:dm)(B h:Nat)(e:Event):Prop:=
 (∀x,(MemAct.ofEvent e).touch? =some x->(U x.loc->x.write=false)/\(O x.loc->x.kind≠.plain/\(x.kind=.said->h=0)))/\(MemAct.ofEvent e).low B
def E6(H:PastG U Mem Lo B (Acc O h t) t){fn:FuncId}{d:String}{es:Array Event}(o:∀e∈es,wE O U B h e)(E:Mem h->deafBehind (Deaf t h) es=Deaf t h):
 PastG U Mem Lo B (Acc O h (t++MemOp.ofEvents h fn d es)) (t++MemOp.ofEvents h fn d es):=by
 have s:∀op∈MemOp.ofEvents h fn d es,op.g=h:=λop c=>by obtain⟨e,_,rfl⟩:=Go.Conc.mem_ofEvents c;rfl
 have u:∀op∈MemOp.ofEvents h fn d es,∀b,op.act.touch? =some b->(U b.loc->b.write=false)/\(O b.loc->b.kind≠.plain/\(b.kind=.said->h=0)):=λop c b y=>by
  obtain⟨e,v,rfl⟩:=Go.Conc.mem_ofEvents c;exact(o e v).1 b y
 refine⟨λsaid=>noRace_append (H.clean said) s λi a r op c b y d=>?_,λi a r b=>?_,λi a r w A g l=>?_,λg l=>?_,λop c=>?_⟩
 .let⟨_,y,_,B⟩:=d;rcases H.known i a r y with ⟨_,n,_⟩|⟨w,A,_⟩
  .grind
  grind
 .let⟨x,m,j⟩:=touch_of r;rcases getElem?_append_cases m with ⟨d,k⟩|⟨_,f⟩
  .rcases H.known i a (by rw[touchAt_of k];exact j) b with n|⟨p,q,g,l,b⟩
   .exact .inl (n.app _)
   .exact .inr ⟨p,q,g,by rw[g?_old d];exact l,b⟩
  .have n:=knows_own m;rw[s x f]at n;refine .inl ⟨lt_size_of_getElem? m,.inl n,λC b D=>?_⟩;have F:C=a:=ξ
   subst F;let⟨b,d⟩:=(u x f C j).2 D;exact⟨b,λb=>by rw[g?_of m,s x f,d b]⟩
 .let⟨x,m,j⟩:=touch_of r;rcases getElem?_append_cases m with ⟨_,k⟩|⟨_,f⟩
  .exact(H.wrote i a (by rw[touchAt_of k];exact j) w A g l).app _
  grind
 .by_cases e:g=h
  .subst e;rw[Deaf_own,E l];exact H.hears g l
  .rw[Deaf_other t (λz=>e z.symm) _ s];exact H.hears g l
 .rcases nQ.1 c with c|c
  .exact H.seen op c
  .obtain⟨e,v,rfl⟩:=Go.Conc.mem_ofEvents c;exact(o e v).2
end
def Walk(P:aG)(J:Bool)(D:World->World->Array Event->Prop)(Stop:gi)(g:aV)(w:aj):Prop:=
 ∀R:Goroutine->World->Prop,(∀g w,(∀d,Stop g (w.at d))->R g w)->(∀g w,g.status=.running->(∀d,∃g' w' es,stepG P J g (w.at d)=.go g' w' es/\D (w.at d) w' es/\R g' w')->R g w)->R g w
section
variable{P:aG}
def Walk.stop(h:∀d,Stop g (w.at d)):Walk P J D Stop g w:=λ_ a _=>a g w h
def Walk.step(f:g.status=.running)(h:∀d,∃g' w' es,stepG P J g (w.at d)=.go g' w' es/\D (w.at d) w' es/\Walk P J D Stop g' w'):Walk P J D Stop g w:=
 λR i e=>e g w f λd=>by
  let⟨g',w',es,a,b,c⟩:=h d;exact⟨g',w',es,a,b,c R i e⟩
def Walk.ind{M:gi}(h:Walk P J D Stop g w)(e:∀g w,(∀d,Stop g (w.at d))->M g w)(f:∀g w,g.status=.running->(∀d,∃g' w' es,stepG P J g (w.at d)=.go g' w' es/\D (w.at d) w' es/\Walk P J D Stop g' w'/\M g' w')->M g w):M g w:=
 (h (λg w=>Walk P J D Stop g w/\M g w) (λg w x=>⟨.stop x,e g w x⟩) λg w e x=>⟨.step e λd=>by
   let⟨g',w',es,a,b,c,_⟩:=x d;grind,f g w e x⟩).2
end
def xh{P:aG}(j:∀w d,D w (w.at d) #[])(i:∀w w' es f,D w w' es->(∀e∈f,e∈es)->D w w' f)(Stop:gi):aB P J D (Walk P J D Stop):=by
 refine⟨λg w d h=>?_,j,i,λg w e h=>.step e λd=>?_⟩
 .refine h.ind (M:=λg w=>Walk P J D Stop g (w.at d)) (λg w h=>.stop λf=>h f) λg w e h=>.step e λf=>?_;let⟨g',w',es,a,b,c,_⟩:=h f;exact⟨g',w',es,a,b,c⟩
 .let⟨g',w',es,_,_,a,_⟩:=h d;grind
def R2(P:aG)(K:cK)(O U:dm)(B:Nat)(Mem:p8)(Z:Nat->Option Seat)(h:Nat)(T:Trace)(Y:jH)(w:aj)(q:bU):Prop:=
 TokCore P K U B (Acc O h) Mem (λg=>g≠h/\(Z g).isSome) Z (·=h) (λ_=>False) T Y w q
section
variable{P:aG}{K:cK}{O:dm}{B:Nat}
def lR{J:Bool}{R:World->World->Prop}{D f:World->World->Array Event->Prop}{S e:gi}(c:∀w w' es,D w w' es->f w w' es)(b:∀g w,S g w->e g w):
 ∀{n:Nat}{g:aV}{w:aj},Goes P J R D S n g w->Goes P J R f e n g w
 |0,_,_,h=>λa r=>b _ _ (h a r)
 |n+1,_,_,h=>h.elim (λx=>.inl λa r=>b _ _ (x a r)) fun⟨e,x⟩=>.inr ⟨e,λa r=>by
  have:=x a r;revert this;cases stepG P J _ a<;>simp only[GStep.goes,imp_self];exact fun⟨d,y⟩=>⟨c _ _ _ d,lR c b y⟩⟩
def AtIn.raise{s:Seat}{b:aV}(f:B<=B')(x:AtIn P J K U B s g b):AtIn P J K U B' s g b:=by
 let⟨j,i,h,g,d,es,c,b⟩:=x;exact⟨j,i,h,g,d,es,λe d=>by let⟨a,i,h,g⟩:=c e d;exact⟨a,i,h,ga g f⟩,b⟩
def Sits.raise{J:Bool}{s:Seat}{n:Nat}{g:aV}(f:B<=B')(x:Sits P J K U B s n g):Sits P J K U B' s n g:=by
 rcases x with ⟨k,w,e,h⟩|⟨e,c,b,g,d⟩
 .exact .inl ⟨k,w,e,lR (λ_ _ _ ⟨d1,d2⟩=>⟨d1,λe i=>by let⟨a,k,g,j⟩:=d2 e i;exact⟨a,k,g,ga j f⟩⟩) (λ_ _ ⟨b,y⟩=>⟨b,AtIn.raise f y⟩) h⟩
 .exact .inr ⟨e,c,b,g,AtIn.raise f d⟩
def Ad{d:Trace->Nat->Prop}{Sp a:p8}(C:TokCore P K U B d Mem Lo Z Sp a T Y w q)(b:B<=B'):TokCore P K U B' d Mem Lo Z Sp a T Y w q:=
 ⟨λi g a d=>by
  have:=C.idle i g a d;cases e:Z i with
  |none=>rw[e]at this;exact this
  |some s=>rw[e]at this;exact Sits.raise b this,C.chans,C.wf,C.live,C.inj,C.above,λi s e=>⟨(C.mem i s e).1,λc a=>ga ((C.mem i s e).2 c a) b⟩,C.nomem,C.lo,C.past.mono b,C.keep⟩
def R2.awake(C:R2 P K O U B Mem Z h T Y w q){a:aV}(c:Y[h]? =some a)(c:a.status=.running\/a.status=.blocked)(g:aV)(c:g∈Y):Go.Conc.awake g:=by
 let⟨i,a⟩:=Array.mem_iff_getElem?.1 c;refine awake_of ?_;by_cases e:i=h
 .grind
 have b:=C.idle i g e a;revert b;cases Z i with
 |none=>exact λz=>z.2.status.imp_right .inr
 |some s=>exact λz=>(Go.Conc.Sits.status C.keep z).imp And.left λy=>.inl y.1
def R2.own(C:R2 P K O U B Mem Z h T Y w q){a a':aV}{es:Array Event}(A:Y[h]? =some a)(r:K w')(u:∀i s c,Z i=some s->s.has c->w'.heap[c]? =w.heap[c]?)(n:∀e∈es,wE O U B h e)(v:Mem h->deafBehind (Deaf T h) es=Deaf T h):
 R2 P K O U B Mem Z h (T++MemOp.ofEvents h a.frame.fn a.frame.place es) ((Y.map (woken P a a' w')).setIfInBounds h a') w' q/\((Y.map (woken P a a' w')).setIfInBounds h a')[h]? =some a':=by
 have u:h<Y.size:=(cU.1 A).1;have d:∀op∈MemOp.ofEvents h a.frame.fn a.frame.place es,op.g=h:=λop a=>by obtain⟨e,_,rfl⟩:=Go.Conc.mem_ofEvents a;rfl
 have t:TokCore P K U B (Acc O h) Mem (λg=>g≠h/\(Z g).isSome) Z (·=h) (λ_=>False) T Y w' q:=
  ⟨C.idle,λi s c f e a=>by let⟨cap,k,g⟩:=C.chans i s c f e a;grind,C.wf,C.live,C.inj,C.above,C.mem,C.nomem,C.lo,C.past,r⟩
 refine⟨⟨λx y m o=>?_,t.chans,C.wf,λ_ _ z=>z.elim,C.inj,λj p=>?_,C.mem,C.nomem,C.lo,E6 C.past n v,r⟩,Lt ξ⟩
 .rw[ku (λe=>m e.symm),sO]at o;obtain⟨l,b,rfl⟩:=D3.1 o;rw[woken_of_again (t.fixed m b)];have f:=C.idle x l m b;cases e:Z x with
  |none=>rw[e]at f;exact⟨f.1,by rw[Deaf_other T (λz=>m z.symm) _ d];exact f.2⟩
  |some s=>rw[e]at f;exact f
 .simp only[zb,Aq]at p;rw[Deaf_other T (g':=h) ω _ d];exact C.above j p
def Di{Kf:Trace->Nat->Prop}{Sp:p8}(F:∀t u i,Kf t i->Kf (t++u) i)(C:TokCore P K U B Kf Mem Lo Z Sp (λ_=>False) T Y w q){sl:Option (Nat×Nat)}(A:Y[i]? =some g)(h:¬Sp i)(v:Z i=none)(d:g.status=.running)(c:∀x c,Sp x->Y[x]? =some c->c.again w=c):
 ∃(c:jH)(E:Array MemOp)(p:bU),runT P (crowd Y w sl) i=(.next (crowd c w sl),E)/\(∀op∈E,op.g=i)/\c.size=Y.size/\(∀x,x≠i->c[x]? =Y[x]?)/\(∀x,x≠i->p x=q x)/\
   TokCore P K U B Kf Mem Lo Z Sp (λ_=>False) (T++E) c w p/\sumTo Y.size p<sumTo Y.size q:=by
 have m:i<Y.size:=(cU.1 A).1;have n:=C.idle i g h A;rw[v]at n;let⟨l,o⟩:=n;have c:(i==0)=false:=θ
 cases j:q i with
 |zero=>rw[j]at o;rw[o.1]at d;cases d
 |succ k=>
  rw[j]at o;rcases o with ⟨c,_⟩|⟨_,g',es,G,c,s⟩
  .simp_all
  have a:∀op∈MemOp.ofEvents i g.frame.fn g.frame.place es,op.g=i:=λop b=>by obtain⟨e,_,rfl⟩:=Go.Conc.mem_ofEvents b;rfl
  have f:∀x,x≠i->((Y.map (woken P g g' w)).setIfInBounds i g')[x]? =Y[x]? :=by
   intro x r;rw[ku (λe=>r e.symm),sO];cases e:Y[x]? with
   |none=>rfl
   |some y=>
    have:woken P g g' w y=y:=woken_of_again (by
     by_cases c:Sp x
     .grind
     .exact C.fixed c e)
    simp[this]
  refine⟨_,_,upd q i k,runT_crowd_go (sl:=sl) A χ,a,ψ,f,λx r=>upd_ne q k r,?_,?_⟩
  .refine C.put m ψ f (Lt ξ) a (λz=>z.elim) (by rw[v];exact⟨l,by rw[Deaf_own];exact s⟩) ?_;exact C.past.appMute (F T _) a (λop b=>by obtain⟨e,D,rfl⟩:=Go.Conc.mem_ofEvents b;exact touch_mute (G e D)) (λa=>((C.nomem i a).elim (λz=>absurd v z) (λz=>absurd z h))) (λop b=>by obtain⟨e,D,rfl⟩:=Go.Conc.mem_ofEvents b;exact low_mute (G e D) B)
  .have a:sumTo Y.size (upd q i k)+(k+1)=sumTo Y.size q+k:=by
    have:=sumTo_upd q k id m;simp_all
   omega
end
structure DR(K:cK)(O U:dm)(h:Nat)(w w':aj)(es:Array Event):Prop where
 keep:K w->K w'
 chan:∀(c cap k:Nat),w.heap[c]? =some (Obj.chan cap #[] false k k false)->w'.heap[c]? =w.heap[c]?
 size:w.heap.size<=w'.heap.size
 ev:∀e∈es,wE O U w'.heap.size h e/\e.loc≠.mark .disable/\e.loc≠.mark .enable
section
variable{P:aG}{K:cK}{O:dm}
def hold(V:∀w d,K w->K (w.at d))(hD:∀w w' es,D w w' es->DR K O U h w w' es)(S:Mem h\/∀i,Z i=none){a:aV}(B:Walk P (h==0) D Stop a w):∀(Y:jH)(T:Trace)(q:bU)(p:Option (Nat×Nat)),Y[h]? =some a->R2 P K O U w.heap.size Mem Z h T Y w q->
 ∃N b o w' f n r,runNT P N (crowd Y w p) T=(.next (crowd b w' f),n)/\b.size=Y.size/\b[h]? =some o/\Stop o w'/\R2 P K O U w'.heap.size Mem Z h n b w' r/\Deaf n h=Deaf T h:=by
 refine Walk.ind (M:=λa w=>∀(Y:jH)(T:Trace)(q:bU)(p:Option (Nat×Nat)),Y[h]? =some a->R2 P K O U w.heap.size Mem Z h T Y w q->
  ∃N b o w' f n r,runNT P N (crowd Y w p) T=(.next (crowd b w' f),n)/\b.size=Y.size/\b[h]? =some o/\Stop o w'/\R2 P K O U w'.heap.size Mem Z h n b w' r/\Deaf n h=Deaf T h) B ?_ ?_
 .exact λa w J Y T q p y C=>⟨0,Y,_,_,p,T,q,rfl,rfl,y,J _,C,rfl⟩
 .intro a w hs H
  have M:∀(A:Nat)(Y:jH)(T:Trace)(q:bU)(p:Option (Nat×Nat))(j:Nat),sumTo Y.size q=A->Y[h]? =some a->R2 P K O U w.heap.size Mem Z h T Y (w.at j) q->
   ∃N b o w' f n r,runNT P N (crowd Y (w.at j) p) T=(.next (crowd b w' f),n)/\b.size=Y.size/\b[h]? =some o/\Stop o w'/\R2 P K O U w'.heap.size Mem Z h n b w' r/\Deaf n h=Deaf T h:=by
   intro A;induction A using Nat.strongRecOn with
   |_ A F=>
    intro Y T q p j A y C;let⟨i,g,d,f,hi,hg,B⟩:=crowd_pick (P:=P) (w:=w.at j) (sl:=p) (C.awake y (.inl hs)) ⟨h,a,y,hs⟩;have Cd:R2 P K O U w.heap.size Mem Z h T Y (w.at d) q:=TokCore.at V C d;have A:stepT P (crowd Y (w.at j) p)=runT P (crowd Y (w.at d) f) i:=B;have next:∀{B E},runT P (crowd Y (w.at d) f) i=(.next B,E)->∀N,runNT P (N+1) (crowd Y (w.at j) p) T=runNT P N B (T++E):=λe N=>by simp only[runNT,A,e]
    by_cases e:i=h
    .subst e;obtain rfl:g=a:=χ
     let⟨g1,a,A,J,g,_,B⟩:=H d;have a:=hD _ _ _ g;have hmarks:Mem i->deafBehind (Deaf T i) A=Deaf T i:=λ_=>deafBehind_still (λe g=>(a.ev e g).2) _;let⟨C',A⟩:=R2.own (a':=g1) (Ad Cd a.size) y (a.keep Cd.keep) (λi s c e K=>by let⟨cap,k,D⟩:=Cd.chans i s c (λz=>z) e K;exact a.chan c cap k D) (λe g=>(a.ev e g).1) hmarks;obtain⟨N',b,o,w',l,n,r,h1,h2,X,W,Q,h6⟩:=B _ _ _ f A C';refine⟨N'+1,b,o,w',l,n,r,by rw[next (runT_crowd_go (sl:=f) hi J)];exact h1,χ,X,W,Q,?_⟩;rw[h6,Deaf_own];exact deafBehind_still (λe g=>(a.ev e g).2) _
    .cases L:Z i with
     |none=>
      let⟨b,E,r,Qo,R,I,a,_,C',qN⟩:=Di (Kf:=Acc O h) (sl:=f) (λt u i x=>Acc.app x u) Cd hi e L hg (λx gx H m=>by subst H;rw[y]at m;obtain rfl:=Option.some.inj m;exact again_running _ (.inl hs));let⟨N',v,o,w',l,n,G,h1,h2,X,W,Q,h6⟩:=F (sumTo b.size r) χ b _ r f d rfl χ C';exact⟨N'+1,v,o,w',l,n,G,χ,by rw[h2,I],X,W,Q,by rw[h6];exact Deaf_other T (λz=>e z) _ R⟩
     |some s=>
      have hM:Mem h:=S.elim id λz=>by rw[z i]at L;cases L
      let⟨b,E,r,Qo,I,a,_,_,C',qN⟩:=TokCore.by_step (Kf:=Acc O h) (sl:=f) (λt u i x=>Acc.app x u) Cd hi e hg (λx gx H m=>by subst H;rw[y]at m;obtain rfl:=Option.some.inj m;exact again_running _ (.inl hs)) (λz=>z.elim)
       (λa a _ _=>⟨λz=>z,λx gx c H m _=>by subst H;rw[y]at m;obtain rfl:=Option.some.inj m;exact offersAt_of_not_blocked χ _ _⟩)
      let⟨N',v,o,w',l,n,G,h1,h2,X,W,Q,h6⟩:=F (sumTo b.size r) χ b _ r f d rfl χ C';exact⟨N'+1,v,o,w',l,n,G,χ,by rw[h2,I],X,W,Q,by rw[Q.past.hears h hM,C.past.hears h hM]⟩
  exact λY T q p y C=>M _ Y T q p w.drawn rfl y C
end
section
variable{O:dm}{B:Nat}{t:Trace}
end
def Ie{P:aG}{m a:Machine}{t:Trace}{E:Array MemOp}(h:stepT P m=(.next a,E)):runNT P 1 m t=(.next a,t++E):=by simp only[runNT,h]
section
variable{P:aG}{K:cK}{O:dm}{B:Nat}
section
variable{a:aV}{k:Nat}{s:Seat}{es:Array Event}
def rH(a:s.Wf)(g:s.cases[kk]? =some (rcase c z)):∀(m:Nat)(d:CommCase),m≠kk->s.cases[m]? =some d->d.chan≠.chan (some c):=by
 intro m d f b e;obtain⟨c,c,rfl⟩:=a.recvs d (DZ b);simp only[rcase,Value.chan.injEq,Option.some.injEq]at e;subst e;exact f (a.apart m kk _ _ _ b g)
end
end
abbrev yG(P:aG)(K:cK)(O:dm)(B:Nat)(Mem:p8)(T:Trace)(Y:jH)(w:aj)(q:bU):Prop:=R2 P K O (λ_=>False) B Mem (λ_=>none) 0 T Y w q
section
variable{P:aG}{K:cK}{O:dm}{B:Nat}{a:aV}
def lE{P:aG}{N:Nat}{m c b:Machine}{t a:Trace}{E:Array MemOp}(h:runNT P N m t=(.next c,a))(d:stepT P c=(.next b,E)):runNT P (N+1) m t=(.next b,a++E):=by
 have:=runNT_succ_of h d;exact this
def yG.hears(C:yG P K O B Mem T Y w q)(b:Deaf T 0=0):yG P K O B (λg=>g=0) T Y w q:=
 ⟨C.idle,C.chans,C.wf,C.live,C.inj,C.above,λi s e=>(by cases e),λi b=>.inr b,λi s _ e=>(by cases e),⟨C.past.clean,λi a c b=>(C.past.known i a c b).imp id λx=>x.2.1.elim,λ_ _ _ _ a=>a.elim,λg a=>ξ,C.past.seen⟩,C.keep⟩
def uP{a:cK}(C:yG P K O B Mem T Y w q)(h:a w):yG P a O B Mem T Y w q:=
 ⟨λi g a b=>C.idle i g a b,C.chans,C.wf,C.live,C.inj,C.above,C.mem,C.nomem,C.lo,C.past,h⟩
end
abbrev tF(a:Addr):Event:=⟨.cell a,false,true⟩
abbrev Dt(a:Addr):Event:=⟨.cell a,true,true⟩
abbrev uD(m:Mark):Event:=⟨.mark m,false,true⟩
def ji(k:IntKind)(a:Addr)(w:aj)(n:Int):Prop:=w.cell? a=some (.int k n)/\w.frozen? a=false
structure qt where
 st:Addr
 se:Addr
 ne:st≠se
section
variable(P:aG)(K:cK)(O:dm)(B:Nat)(Gp:qt)(Anchor:Goroutine->Prop)
end
section
variable{P:aG}{K:cK}{O:dm}{B:Nat}{Gp:qt}{Anchor:Goroutine->Prop}{t:Nat}
end
section
variable{a:Nat}{s:Int}
end
def dM(a:Nat):Nat:=if a=0\/a=7\/a=8 then 0 else 1
def dC(c:Nat):Nat:=if c<=1 then 0 else 1
section
variable{P:aG}{K:cK}{O:dm}{B:Nat}{t:Trace}
def uc(d:Nat)(es:Array Event):Prop:=∀(k:Nat)(e:Event),es[k]? =some e->(MemAct.ofEvent e).touch? ≠none->0<d/\∀(j:Nat)(e':Event),j<k->es[j]? =some e'->e'.loc≠.mark .enable
def iQ{es:Array Event}(h:∀e∈es,(MemAct.ofEvent e).touch? =none):uc d es:=λk e b a=>absurd (h e (DZ b)) a
def mR{es:Array Event}(a:0<d)(h:∀e∈es,e.loc≠.mark .enable):uc d es:=λ_ _ _ _=>⟨a,λ_ b _ a=>h b (DZ a)⟩
def FP(g:0<d)(a:Addr):uc d (semEvents a):=by
 intro k e c f;refine⟨g,λj a a b=>?_⟩;rcases k with _|_|_|_|k
 .omega
 .obtain rfl:j=0:=ω
  simp[semEvents]at b;grind
 .rcases j with _|_|j
  .simp[semEvents]at b;grind
  .simp[semEvents]at b;grind
  .omega
 .simp[semEvents]at c;subst c;exact absurd rfl f
 .simp[semEvents]at c
def BE{t u:Trace}{g:Nat}:∀(k:Nat),k<=u.size->(∀j y,j<k->u[j]? =some y->y.act≠.mark .enable)->Deaf t g<=(t++u).deaf g (t.size+k)
 |0,_,_=>by rw[jI,deaf_old (az _)];exact az _
 |k+1,a,h=>by
  have a:=BE (t:=t) (g:=g) k ω λj y b=>h j y ω;have b:(t++u)[t.size+k]? =some u[k]:=χ
  have c:=h k u[k] ω (iz ω);rw[<-Nat.add_assoc,deaf_succ b];refine aT a ?_;unfold deafStep;grind
def zF(H:PastG U Mem Lo B (Acc O h t) t)(S:∀l,U l->¬O l){fn:FuncId}{pos:String}{es:Array Event}(l:∀e∈es,(∀x,(MemAct.ofEvent e).touch? =some x->x.kind=.atomic/\O x.loc)/\(MemAct.ofEvent e).low B)(T:¬Mem c)(R:uc (Deaf t c) es):
 PastG U Mem Lo B (Acc O h (t++MemOp.ofEvents c fn pos es)) (t++MemOp.ofEvents c fn pos es):=by
 have J:∀op∈MemOp.ofEvents c fn pos es,op.g=c:=λop d=>by obtain⟨e,_,rfl⟩:=Go.Conc.mem_ofEvents d;rfl
 have w:∀op∈MemOp.ofEvents c fn pos es,∀b,op.act.touch? =some b->b.kind=.atomic/\O b.loc:=λop d b K=>by
  obtain⟨e,E,rfl⟩:=Go.Conc.mem_ofEvents d;grind
 refine⟨λsaid=>noRace_append (H.clean said) J λi a s op d b K l=>?_,λi a s h=>?_,λi a s P L g n=>?_,λg n=>?_,λop d=>?_⟩
 .let⟨S,B,_,W⟩:=l;let⟨M,G⟩:=w op d b K;have b:O a.loc:=S▸G;rcases H.known i a s B with ⟨_,_,b⟩|⟨_,L,_⟩
  .simp_all
  simp_all
 .let⟨x,r,f⟩:=touch_of s;rcases getElem?_append_cases r with ⟨B,o⟩|⟨b,u⟩
  .rcases H.known i a (by rw[touchAt_of o];exact f) h with l|⟨p,q,g,n,h⟩
   .exact .inl (l.app _)
   .exact .inr ⟨p,q,g,by rw[g?_old B];exact n,h⟩
  .let⟨M,G⟩:=w x u a f;have A:¬(t++MemOp.ofEvents c fn pos es).heard i:=by
    rintro ⟨g,n,h⟩;have h:=lt_size_of_getElem? r;have b:t.size<=i:=by assumption
    obtain⟨k,rfl⟩:∃k,i=t.size+k:=⟨i-t.size,ω⟩;have v:(MemOp.ofEvents c fn pos es)[k]? =some x:=ξ
    have C:g=c:=by rw[g?_of r]at n;simp_all
    subst C;rw[ofEvents_eq,sO]at v;obtain⟨e,E,rfl⟩:=D3.1 v;let⟨b,V⟩:=R k e E ξ;have:=BE (t:=t) (u:=MemOp.ofEvents g fn pos es) (g:=g) k χ (λj y Q I=>by
     rw[ofEvents_eq,sO]at I;obtain⟨F,D,rfl⟩:=D3.1 I;intro z;have z':MemAct.ofEvent F=.mark .enable:=z;refine V j F Q D ?_;let⟨loc,wr,N⟩:=F;cases loc with
     |mark m=>simpa [MemAct.ofEvent]using z'
     |obj c=>cases wr<;>cases N<;>simp[MemAct.ofEvent]at z'
     |_=>simp[MemAct.ofEvent]at z')
    omega
   refine .inl ⟨lt_size_of_getElem? r,.inr ⟨a,s,M,G,A⟩,λb b _=>?_⟩;simp_all
 .let⟨x,r,f⟩:=touch_of s;rcases getElem?_append_cases r with ⟨_,o⟩|⟨_,u⟩
  .exact(H.wrote i a (by rw[touchAt_of o];exact f) P L g n).app _
  grind
 .rw[Deaf_other t (show c≠g from λz=>T (by rw[z];exact n)) _ J];exact H.hears g n
 .rcases nQ.1 d with d|d
  .exact H.seen op d
  .obtain⟨e,E,rfl⟩:=Go.Conc.mem_ofEvents d;simp_all
end
section
variable{P:aG}{K:cK}{O:dm}{B:Nat}
end
section
variable{P:aG}{K:cK}{O:dm}{B:Nat}{Gp:qt}{Anchor:Goroutine->Prop}
def Joined(P:aG)(K:cK)(O:dm)(B:Nat)(Gp:qt)(Anchor:Goroutine->Prop)(n:Nat)(m:Machine)(t:Trace):Prop:=
 ∃Y w sl q a,m=crowd Y w sl/\Y.size=n/\Y[0]? =some a/\Anchor a/\yG P K O B (λ_=>False) t Y w q/\Deaf t 0=0/\ji .u64 Gp.st w 0/\ji .u32 Gp.se w 0
def kF{k:IntKind}{a:Addr}{n:Int}(h:ji k a w n)(v:Int):ji k a (w.setCell a (.int k v)) v:=⟨D6 _ _ _ h.1,by rw[YB];exact h.2⟩
def fN{k d:IntKind}{a b:Addr}{n:Int}(h:ji k a w n)(c:b≠a)(v:Int):ji k a (w.setCell b (.int d v)) n:=⟨(qa _ _ _ _ c).trans h.1,by rw[YB];exact h.2⟩
structure JK(K:cK)(O:dm)(B:Nat)(Gp:qt):Prop where
 at':∀w d,K w->K (w.at d)
 st:∀w v,K w->K (w.setCell Gp.st v)
 se:∀w v,K w->K (w.setCell Gp.se v)
 yz:O (.cell Gp.st)
 Pf:O (.cell Gp.se)
 yM:Gp.st.block<B
 PR:Gp.se.block<B
def ij{m:Mark}(a:(MemAct.mark m).touch? =none)(b:(MemAct.mark m).low B):wE O U B h (uD m):=by
 refine⟨λx c=>?_,b⟩;have:(MemAct.ofEvent (uD m)).touch? =none:=a;simp_all
def dz{a:Addr}{wr:Bool}(b:¬U (.cell a))(b:a.block<B):wE O U B h ⟨.cell a,wr,true⟩:=by
 refine⟨λx c=>?_,b⟩;have:(MemAct.ofEvent ⟨.cell a,wr,true⟩).touch? =some ⟨.cell a,wr,.atomic⟩:=rfl;grind
def jS{m:Mark}(a:(MemAct.mark m).touch? =none)(b:(MemAct.mark m).low B):(∀x,(MemAct.ofEvent (uD m)).touch? =some x->x.kind=.atomic/\O x.loc)/\(MemAct.ofEvent (uD m)).low B:=by
 refine⟨λx c=>?_,b⟩;have:(MemAct.ofEvent (uD m)).touch? =none:=a;simp_all
def cL{a:Addr}{wr:Bool}(b:O (.cell a))(b:a.block<B):(∀x,(MemAct.ofEvent ⟨.cell a,wr,true⟩).touch? =some x->x.kind=.atomic/\O x.loc)/\(MemAct.ofEvent ⟨.cell a,wr,true⟩).low B:=by
 refine⟨λx c=>?_,b⟩;have:(MemAct.ofEvent ⟨.cell a,wr,true⟩).touch? =some ⟨.cell a,wr,.atomic⟩:=rfl;grind
def Gs{Q:Event->Prop}{a:Addr}(c:Q (uD .disable))(c:Q (tF a))(c:Q (Dt a))(c:Q (uD .enable)):∀e∈semEvents a,Q e:=by
 intro e b;simp only[semEvents,rq,ak,bH,or_false]at b;rcases b with rfl|rfl|rfl|rfl<;>assumption
def c8{Q:Event->Prop}{a:Event}(h:Q a):∀e∈#[a],Q e:=by intro e b;simp at b;subst b;exact h
def pg{Q:Event->Prop}{b a:Event}(h:Q b)(d:Q a):∀e∈#[b,a],Q e:=by intro e c;simp at c;rcases c with rfl|rfl<;>assumption
def oa{Q:Event->Prop}:∀e∈(#[]:Array Event),Q e:=by intro e a;simp at a
def HM{a:aV}(b:a.status=.running):{{a with status:=.blocked} with status:=.running}=a:=by
 cases a;simp_all
def sY(P:aG)(g g':aV)(w:aj){a:aV}(b:a.status=.running)(c:a.offers=none):woken P g g' w {a with status:=.blocked}=a\/(woken P g g' w {a with status:=.blocked}={a with status:=.blocked}/\¬(mayWake P g=true/\g'.status=.running)):=by
 unfold woken;split
 .left;have:({a with status:=.blocked}:aV).again w={{a with status:=.blocked} with status:=.running}:=by unfold Goroutine.again;simp[c]
  rw[this];exact HM b
 grind
end
end Go.Proofs.YtobagnjnbmgidabGreatDoor
