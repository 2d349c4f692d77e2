import Derived.StepT
import Derived.RunT
import Derived.Laws.World
import Derived.Conc.CompanyMem
import Derived.Conc.CompanyCalls
import Derived.Conc.CompanyDraw
import Derived.Conc.DeferLaws
import Derived.Conc.Starve
import Derived.Conc.AppendWalk
import Derived.RowKit
import Derived.KernelRfl
import Derived.Below
import Derived.OwnWalk
import Derived.WalkKit
import Derived.Conc.Token
import Derived.Conc.MarkLaws
set_option linter.all false
namespace Go.Proofs.YtobagnjnbmgidaaGreatDoor
section
open Go
def nq(z:Addr)(v:Value):Obj→Obj
 |.cells c elem frozen=>.cells (if z.spot.isSome then c else c.setIfInBounds z.off v) elem frozen
 |o=>o
theorem heap_set(w:World)(z:Addr)(v:Value)(r:Nat):(w.setCell z v).heap[r]? =if z.block=r then(w.heap[r]?).map (nq z v) else w.heap[r]? :=by
 simp only[World.setCell,Array.getElem?_modify]
 split
 ·cases w.heap[r]? with
  |none=>rfl
  |some o=>cases o<;>rfl
 ·rfl
theorem gp{w w':World}(h:∀r:Nat,w.heap[r]? =w'.heap[r]?)(h1:w.tape=w'.tape)(h2:w.drawn=w'.drawn)(h3:w.os=w'.os)(h4:w.output=w'.output):w=w':=by
 cases w;cases w'
 simp only[World.mk.injEq];exact⟨Array.ext_getElem? h,h1,h2,h3,h4⟩
theorem DW{a z:Addr}{x v:Value}(hb:a.block=z.block)(aN:a≠z)(o:Obj):nq a x (nq z v o)=nq z v (nq a x o):=by
 cases o with
 |cells c e f=>
  simp only[nq]
  by_cases h1:a.spot.isSome<;>by_cases h2:z.spot.isSome<;>simp only[h1,h2,if_true,if_false]
  have:z.off≠a.off:=fun e=>aN (by
   cases a;cases z
   simp_all)
  congr 1
  simp only[Bool.false_eq_true,if_false];exact Array.setIfInBounds_comm _ _ this
 |_=>rfl
theorem wz(w:World){a z:Addr}(x v:Value)(aN:a≠z):(w.setCell z v).setCell a x=(w.setCell a x).setCell z v:=by
 refine gp (fun r=>?_) rfl rfl rfl rfl;simp only[heap_set]
 by_cases h1:a.block=r<;>by_cases h2:z.block=r<;>simp only[h1,h2,if_true,if_false]
 cases w.heap[r]? with
 |none=>rfl
 |some o=>simp only[Option.map_some];rw[DW (h1.trans h2.symm) aN]
theorem vP(w:World)(a z:Addr)(v:Value)(h:w.cell? a=none):(w.setCell z v).cell? a=none:=by
 unfold World.cell? at h ⊢;rw[heap_set]
 by_cases e:z.block=a.block
 ·rw[if_pos e]
  cases hb:w.heap[a.block]? with
  |none=>rfl
  |some o=>
   rw[hb] at h;cases o with
   |cells c el f=>
    simp only[Option.map_some,nq] at h ⊢
    by_cases h1:a.spot.isSome<;>simp only[h1,if_true,if_false,Bool.false_eq_true] at h ⊢
    by_cases h2:z.spot.isSome<;>simp only[h2,if_true,if_false,Bool.false_eq_true]
    ·exact h
    ·rw[Array.getElem?_eq_none_iff] at h ⊢;simpa using h
   |_=>rfl
 ·rw[if_neg e];exact h
def iH(w:World)(b:Nat):Prop:=∃c el f,w.heap[b]? =some (.cells c el f)
theorem iH.set{w:World}{b:Nat}(h:iH w b)(z:Addr)(v:Value):iH (w.setCell z v) b:=by
 obtain⟨c,el,f,e⟩:=h;unfold iH;rw[heap_set,e]
 by_cases x:z.block=b
 ·rw[if_pos x];exact⟨_,_,_,rfl⟩
 ·rw[if_neg x];exact⟨_,_,_,rfl⟩
theorem iH.lt{w:World}{b:Nat}(h:iH w b):b<w.heap.size:=by
 obtain⟨c,el,f,e⟩:=h;exact(Array.getElem?_eq_some_iff.1 e).1
theorem DV(w:World)(z:Addr)(v:Value)(r:Nat):(w.setCell z v).shape? r=w.shape? r:=by
 unfold World.shape?;rw[heap_set]
 by_cases e:z.block=r
 ·rw[if_pos e]
  cases w.heap[r]? with
  |none=>rfl
  |some o=>
   cases o with
   |cells c el f=>simp only[Option.map_some,nq];by_cases h:z.spot.isSome<;>simp[h]
   |_=>rfl
 ·rw[if_neg e]
theorem pg{w:World}(z:Addr)(v:Value){r:Nat}(hz:iH w z.block){o:Obj}(ho:w.heap[r]? =some o)(hn:∀c el f,o≠.cells c el f):z.block≠r∧(w.setCell z v).heap[r]? =some o:=by
 have:z.block≠r:=fun e=>by
  obtain⟨c,el,f,h⟩:=hz;rw[e,ho] at h;exact hn _ _ _ (Option.some.inj h)
 exact⟨this,by rw[heap_set,if_neg this];exact ho⟩
theorem nI{p:Program}{c:Array Value}{e:TypeId}{k:Nat}(v:Value):∀(f x stop:Nat)(l:List (Nat×Nat×List UInt8)),seenCells p c e f x stop=.ok l→(∀t∈l,t.1≠k)→seenCells p (c.setIfInBounds k v) e f x stop=.ok l
 |0,x,stop,l,h,_=>by simp[seenCells] at h
 |f+1,x,stop,l,h,hn=>by
  unfold seenCells at h ⊢
  split at h
  ·rename_i hx;rw[if_pos hx];exact h
  rename_i hx
  rw[if_neg hx];dsimp only at h ⊢
  split at h
  ·cases h
  rename_i hw
  rw[if_neg hw]
  split at h
  ·cases h
  rename_i i s hi
  split at h
  ·cases h
  rename_i y hy
  split at h
  ·cases h
  ·cases h
  rename_i bs SD aN
  cases hr:seenCells p c e f (s+bs.length) stop with
  |error m=>rw[hr] at h;simp[Except.map] at h
  |ok l'=>
   rw[hr] at h;simp only[Except.map,Except.ok.injEq] at h;subst h;have hik:i≠k:=hn _ (List.mem_cons_self ..);rw[Array.getElem?_setIfInBounds_ne (fun e=>hik e.symm),hy];dsimp only;rw[aN]
   split
   ·rename_i q;cases q
   ·rename_i q;cases q;exact absurd rfl (SD)
   ·rename_i q
    cases q
    rw[nI v f _ _ l' hr (fun t ht=>hn t (List.mem_cons_of_mem _ ht))]
    rfl
def lI(z:Addr)(v:Value)(b:Nat)(c:Array Value):Array Value:=if z.block=b then(if z.spot.isSome then c else c.setIfInBounds z.off v) else c
theorem wB{w:World}{b:Nat}{c:Array Value}{e:TypeId}{f:Nat×Nat}(z:Addr)(v:Value)(h:w.heap[b]? =some (.cells c e f)):(w.setCell z v).heap[b]? =some (.cells (lI z v b c) e f):=by
 rw[heap_set,h];unfold lI
 split<;>rfl
theorem D2{p:Program}{c:Array Value}{e:TypeId}{z:Addr}{b:Nat}(v:Value){f x stop:Nat}{l:List (Nat×Nat×List UInt8)}(h:seenCells p c e f x stop=.ok l)(hn:∀t∈l,({block:=b,off:=t.1}:Addr)≠z):seenCells p (lI z v b c) e f x stop=.ok l:=by
 unfold lI
 split
 ·rename_i hb
  split
  ·exact h
  ·rename_i hs
   refine nI v f x stop l h fun t ht e=>hn t ht ?_
   cases z
   simp_all
 ·exact h
theorem yx{p:Program}{w:World}{at_:Addr}{u:TypeId}{k:Addr}{atomic:Bool}{c:Array Value}{e:TypeId}{fz:Nat×Nat}{first:Nat}{Au:Value}{cells:List (Nat×Nat×List UInt8)}(z:Addr)(v:Value)(h:w.seen p at_ u k atomic=.ok (c,e,fz,first,Au,cells))(hn:∀t∈cells,({block:=at_.block,off:=t.1}:Addr)≠z):
 w.heap[at_.block]? =some (.cells c e fz)∧(w.setCell z v).seen p at_ u k atomic=.ok (lI z v at_.block c,e,fz,first,Au,cells):=by
 have ht:∀{α:Type}(m:String),(MonadExcept.throw m:Except String α)=.error m:=fun _=>rfl
 unfold World.seen at h ⊢;simp only[bind,Except.bind,throw,throwThe,MonadExceptOf.throw,pure,Except.pure,ht] at h ⊢
 by_cases h1:(k.spot.isSome||at_.spot.isSome)=true
 ·rw[if_pos h1] at h;cases h
 rw[if_neg h1] at h ⊢;cases h2:plainCell p p.depth u k.off with
 |none=>rw[h2] at h;cases h
 |some lk=>
 simp only[h2] at h ⊢;cases h3:Option.map (fun x=>x.length) lk.bytes? with
 |none=>rw[h3] at h;cases h
 |some size=>
 simp only[h3] at h ⊢;cases h4:byteOfCell p p.depth u k.off with
 |none=>rw[h4] at h;cases h
 |some β=>
 simp only[h4] at h ⊢;cases ho:w.heap[at_.block]? with
 |none=>rw[ho] at h;cases h
 |some o=>
 cases o with
 |cells c0 e0 f0=>
  rw[wB z v ho];simp only[ho] at h ⊢
  by_cases h5:p.cellsOf e0=0
  ·rw[if_pos h5] at h;cases h
  rw[if_neg h5] at h ⊢;cases h6:byteOfCell p p.depth e0 (at_.off % p.cellsOf e0) with
  |none=>rw[h6] at h;cases h
  |some b0=>
  simp only[h6] at h ⊢;cases h7:seenCells p c0 e0 (size+1) (at_.off / p.cellsOf e0*p.bytesOf e0+b0+β) (at_.off / p.cellsOf e0*p.bytesOf e0+b0+β+size) with
  |error m=>rw[h7] at h;cases h
  |ok l=>
  simp only[h7] at h
  have hl:c0=c∧e0=e∧f0=fz∧at_.off / p.cellsOf e0*p.bytesOf e0+b0+β=first∧lk=Au∧l=cells:=by
   revert h
   repeat' split
   all_goals intro h
   all_goals first|(cases h;done)|(simp only[Except.ok.injEq,Prod.mk.injEq] at h;exact h)
  obtain⟨rfl,rfl,rfl,rfl,rfl,rfl⟩:=hl;rw[D2 v h7 hn];refine⟨rfl,?_⟩
  revert h
  dsimp only
  repeat' split
  all_goals intro h
  all_goals first|(cases h;done)|rfl
 |_=>rw[ho] at h;cases h
theorem vX{p:Program}{w:World}{at_:Addr}{u:TypeId}{k:Addr}{atomic:Bool}{x:Value}{t:List Addr}(z:Addr)(v:Value)(h:w.viewLoad p at_ u k atomic=.ok (x,t))(hn:∀a∈t,a≠z):
 (w.setCell z v).viewLoad p at_ u k atomic=.ok (x,t):=by
 have ht:∀{α:Type}(m:String),(MonadExcept.throw m:Except String α)=.error m:=fun _=>rfl
 unfold World.viewLoad at h ⊢;simp only[bind,Except.bind,throw,throwThe,MonadExceptOf.throw,pure,Except.pure,ht] at h ⊢;cases h1:w.seen p at_ u k atomic with
 |error m=>rw[h1] at h;cases h
 |ok r=>
 obtain⟨c,e,fz,first,Au,cells⟩:=r;simp only[h1] at h;cases h2:Au.ofBytes (cells.flatMap fun y=>(y.2.2.drop (first-y.2.1)).take (first+(Au.bytes?.map (·.length)).getD 0-max first y.2.1)) with
 |none=>simp only[h2] at h;cases h
 |some y=>
 simp only[h2,Except.ok.injEq,Prod.mk.injEq] at h;obtain⟨rfl,rfl⟩:=h;obtain⟨_,h3⟩:=yx z v h1 fun y hy=>hn _ (List.mem_map.2 ⟨y,hy,rfl⟩)
 rw[h3];simp only[h2]
theorem vH{z:Addr}{v:Value}{b:Nat}{β:Type}{F:Array Value→Nat×β→Except String (Array Value)}(hF:∀c c' t,({block:=b,off:=t.1}:Addr)≠z→F c t=.ok c'→F (lI z v b c) t=.ok (lI z v b c')):
 ∀(l:List (Nat×β))(c c':Array Value),(∀t∈l,({block:=b,off:=t.1}:Addr)≠z)→l.foldlM F c=.ok c'→l.foldlM F (lI z v b c)=.ok (lI z v b c')
 |[],c,c',_,h=>by
  simp only[List.foldlM_nil,pure,Except.pure,Except.ok.injEq] at h ⊢;rw[h]
 |t::l,c,c',hn,h=>by
  rw[List.foldlM_cons] at h ⊢;simp only[bind,Except.bind] at h ⊢;cases h1:F c t with
  |error m=>rw[h1] at h;cases h
  |ok c1=>
   rw[h1] at h;rw[hF c c1 t (hn t (List.mem_cons_self ..)) h1];exact vH hF l c1 c' (fun t ht=>hn t (List.mem_cons_of_mem _ ht)) h
theorem FU{z:Addr}{v:Value}{b i:Nat}{c:Array Value}(hn:({block:=b,off:=i}:Addr)≠z):(lI z v b c)[i]? =c[i]? :=by
 unfold lI
 split
 ·split
  ·rfl
  ·exact Array.getElem?_setIfInBounds_ne fun e=>hn (by cases z;simp_all)
 ·rfl
theorem FT{z:Addr}{v x:Value}{b i:Nat}{c:Array Value}(hn:({block:=b,off:=i}:Addr)≠z):(lI z v b c).setIfInBounds i x=lI z v b (c.setIfInBounds i x):=by
 unfold lI
 split
 ·split
  ·rfl
  ·exact Array.setIfInBounds_comm _ _ fun e=>hn (by cases z;simp_all)
 ·rfl
theorem EK{w:World}{z:Addr}{v:Value}{b:Nat}{c:Array Value}{e:TypeId}{f:Nat×Nat}:
 ({w.setCell z v with heap:=(w.setCell z v).heap.setIfInBounds b (.cells (lI z v b c) e f)}:World)=World.setCell {w with heap:=w.heap.setIfInBounds b (.cells c e f)} z v:=by
 refine gp (fun r=>?_) rfl rfl rfl rfl;rw[heap_set];dsimp only;rw[Array.getElem?_setIfInBounds,Array.getElem?_setIfInBounds,heap_set];have cU:(w.setCell z v).heap.size=w.heap.size:=by simp[World.setCell]
 rw[cU]
 by_cases h1:b=r
 ·subst h1
  rw[if_pos rfl,if_pos rfl]
  by_cases h2:b<w.heap.size
  ·simp only[h2,if_true,Option.map_some,nq,lI];split<;>rfl
  ·simp only[h2,if_false,Option.map_none];split<;>rfl
 ·rw[if_neg h1,if_neg h1]
theorem uE{p:Program}{w w':World}{at_:Addr}{u:TypeId}{k:Addr}{x:Value}{atomic:Bool}{t:List Addr}(z:Addr)(v:Value)(h:w.viewStore p at_ u k x atomic=.ok (w',t))(hn:∀a∈t,a≠z):
 (w.setCell z v).viewStore p at_ u k x atomic=.ok (w'.setCell z v,t):=by
 have ht:∀{α:Type}(m:String),(MonadExcept.throw m:Except String α)=.error m:=fun _=>rfl
 unfold World.viewStore at h ⊢;simp only[bind,Except.bind,throw,throwThe,MonadExceptOf.throw,pure,Except.pure,ht] at h ⊢
 by_cases h0:(!tight p p.depth u)=true
 ·rw[if_pos h0] at h;cases h
 rw[if_neg h0] at h ⊢;cases h1:w.seen p at_ u k atomic with
 |error m=>rw[h1] at h;cases h
 |ok r=>
 obtain⟨c,e,fz,first,Au,cells⟩:=r;simp only[h1] at h;cases h2:x.bytes? with
 |none=>rw[h2] at h;cases h
 |some bytes=>
 simp only[h2] at h ⊢
 split at h
 ·cases h
 rename_i h3
 split at h
 ·cases h
 rename_i c' hf
 simp only[Except.ok.injEq,Prod.mk.injEq] at h;obtain⟨rfl,rfl⟩:=h;have EY:∀y∈cells,({block:=at_.block,off:=y.1}:Addr)≠z:=fun y hy=>hn _ (List.mem_map.2 ⟨y,hy,rfl⟩)
 obtain⟨_,h4⟩:=yx z v h1 EY;rw[h4];simp only[h3,if_false];rw[vH (b:=at_.block) ?_ cells c c' EY hf]
 ·simp only[Except.ok.injEq,Prod.mk.injEq,and_true]
  exact EK
 ·intro c c' y hy hF
  revert hF
  simp only[FU hy]
  repeat' split
  all_goals intro hF
  all_goals first|(cases hF;done)|(simp only[Except.ok.injEq] at hF ⊢;rw[←hF,FT hy])
theorem sK{p:Program}{w w':World}{at_:Addr}{u:TypeId}{k:Addr}{x:Value}{atomic:Bool}{t:List Addr}(h:w.viewStore p at_ u k x atomic=.ok (w',t)):
 ∃c e f,w'={w with heap:=w.heap.setIfInBounds at_.block (.cells c e f)}:=by
 have ht:∀{α:Type}(m:String),(MonadExcept.throw m:Except String α)=.error m:=fun _=>rfl
 unfold World.viewStore at h;simp only[bind,Except.bind,throw,throwThe,MonadExceptOf.throw,pure,Except.pure,ht] at h
 split at h
 ·cases h
 split at h
 ·cases h
 split at h
 ·split at h
  ·cases h
  split at h
  ·cases h
  simp only[Except.ok.injEq,Prod.mk.injEq] at h;exact⟨_,_,_,h.1.symm⟩
 ·cases h
theorem iH.put{w:World}{b r:Nat}(h:iH w b){c:Array Value}{e:TypeId}{f:Nat×Nat}:iH {w with heap:=w.heap.setIfInBounds r (.cells c e f)} b:=by
 by_cases x:r=b
 ·subst x
  exact⟨c,e,f,Array.getElem?_setIfInBounds_self_of_lt h.lt⟩
 ·obtain⟨c0,e0,f0,h0⟩:=h
  exact⟨c0,e0,f0,(Array.getElem?_setIfInBounds_ne x).trans h0⟩
theorem kS(w:World)(a:Addr)(m:String):(∀v,w.noCell a m≠.panic v)∧w.noCell a m≠.goexit:=by
 unfold World.noCell
 constructor
 ·intro v;split<;>exact fun e=>by cases e
 ·split<;>exact fun e=>by cases e
def M7{α:Type}(z:Addr)(v:Value):Result α→Result α
 |.ok a w=>.ok a (w.setCell z v)
 |.halt h w=>.halt h (w.setCell z v)
def Pj{α:Type}:Result α→Prop
 |.ok _ _=>True
 |.halt h _=>(∃v,h=.panic v)∨h=.goexit
theorem grow{α:Type}{P:Program}{e:Event}:∀(s:Sem α)(w:World)(es:Array Event),e∈es→e∈(s.runT P w es).2:=by
 intro s
 induction s with
 |pure a=>intro w es h;exact h
 |load m a k ih=>
  intro w es h;unfold Sem.runT
  split
  ·exact ih _ _ _ (Array.mem_push_of_mem _ h)
  ·split
   ·exact ih _ _ _ (Array.mem_append_left _ h)
   ·exact h
 |store m a x k ih=>
  intro w es h;cases x
  all_goals (first|exact h|skip)
  all_goals
   simp only[Sem.runT]
   split
   ·split
    ·exact h
    ·exact ih _ _ (Array.mem_push_of_mem _ h)
   ·split
    ·exact ih _ _ (Array.mem_append_left _ h)
    ·exact h
 |new o k ih=>intro w es h;exact ih _ _ _ h
 |shape r k ih=>intro w es h;exact ih _ _ _ h
 |freeze a n k ih=>intro w es h;exact ih _ _ h
 |frozen a k ih=>intro w es h;exact ih _ _ _ h
 |getObj r k ih=>
  intro w es h;unfold Sem.runT
  split
  ·exact h
  ·exact ih _ _ _ (Array.mem_push_of_mem _ h)
  ·exact h
 |setObj r o k ih=>
  intro w es h;unfold Sem.runT
  split
  ·exact h
  ·exact ih _ _ (Array.mem_push_of_mem _ h)
  ·exact h
 |choose q k ih=>
  intro w es h;unfold Sem.runT
  split
  ·exact ih _ _ _ h
  ·exact ih _ _ _ h
 |sys c k ih=>intro w es h;exact ih _ _ _ (Array.mem_push_of_mem _ h)
 |program k ih=>intro w es h;exact ih _ _ _ h
 |mark m k ih=>intro w es h;exact ih _ _ (Array.mem_push_of_mem _ h)
 |halt h=>intro w es h;exact h
theorem Gf(w:World)(o:Obj){z:Addr}(v:Value)(hz:z.block<w.heap.size):({w.setCell z v with heap:=(w.setCell z v).heap.push o}:World)=World.setCell {w with heap:=w.heap.push o} z v:=by
 refine gp (fun r=>?_) rfl rfl rfl rfl;have cU:(w.setCell z v).heap.size=w.heap.size:=by simp[World.setCell]
 rw[heap_set];dsimp only;rw[Array.getElem?_push,Array.getElem?_push,cU,heap_set]
 by_cases h1:r=w.heap.size
 ·rw[if_pos h1,if_pos h1,if_neg (by omega)]
 ·rw[if_neg h1,if_neg h1]
theorem iH.push{w:World}{b:Nat}(h:iH w b)(o:Obj):iH {w with heap:=w.heap.push o} b:=by
 have hl:=h.lt;obtain⟨c,e,f,x⟩:=h;exact⟨c,e,f,by dsimp only;rw[Array.getElem?_push,if_neg (by omega)];exact x⟩
theorem A7(w:World)(a:Addr)(n:Nat)(z:Addr)(v:Value):(w.setCell z v).freeze a n=(w.freeze a n).setCell z v:=by
 unfold World.freeze
 split
 ·rfl
 refine gp (fun r=>?_) rfl rfl rfl rfl;rw[heap_set];dsimp only;rw[Array.getElem?_modify,Array.getElem?_modify,heap_set]
 by_cases h1:a.block=r<;>by_cases h2:z.block=r<;>simp only[h1,h2,if_true,if_false]
 cases w.heap[r]? with
 |none=>rfl
 |some o=>
  cases o with
  |cells c e f=>obtain⟨lo,hi⟩:=f;simp only[Option.map_some,nq]
  |_=>rfl
theorem iH.freeze{w:World}{b:Nat}(h:iH w b)(a:Addr)(n:Nat):iH (w.freeze a n) b:=by
 obtain⟨c,e,f,x⟩:=h;unfold World.freeze
 split
 ·exact⟨c,e,f,x⟩
 ·obtain⟨lo,hi⟩:=f
  by_cases h1:a.block=b
  ·exact⟨c,e,_,by dsimp only;rw[Array.getElem?_modify,if_pos h1,x];rfl⟩
  ·exact⟨c,e,(lo,hi),by dsimp only;rw[Array.getElem?_modify,if_neg h1];exact x⟩
theorem KQ{α:Type}(z:Addr)(v:Value):∀(x:Ask α)(w:World),(w.setCell z v).ask x=((w.ask x).1,(w.ask x).2.setCell z v)∧(w.ask x).2.heap=w.heap:=by
 intro x
 induction x with
 |done a=>intro w;exact⟨rfl,rfl⟩
 |ask what range k ih=>
  intro w;unfold World.ask;dsimp only
  split
  ·exact ih _ w
  ·exact ih _ {w with drawn:=w.drawn+1}
theorem Jb(w:World)(c:Sys)(z:Addr)(v:Value):(w.setCell z v).sys c=((w.sys c).1,(w.sys c).2.setCell z v)∧(w.sys c).2.heap=w.heap:=by
 obtain⟨h1,h2⟩:=KQ z v (Kernel.perform c w.os) w;unfold World.sys;have:(w.setCell z v).os=w.os:=rfl;rw[this,h1];generalize w.ask (Kernel.perform c w.os)=r at h2 ⊢;obtain⟨⟨r,os⟩,w1⟩:=r;cases r<;>exact⟨rfl,by first|exact h2|rfl⟩
theorem zk{p:Program}{w:World}{a:Addr}{m:Bool}{x:Value}{t:List Addr}{z:Addr}(v:Value)(hz:iH w z.block)(h:w.farLoad p a m=.ok (x,t))(hn:∀b∈t,b≠z):(w.setCell z v).farLoad p a m=.ok (x,t):=by
 unfold World.farLoad at h ⊢
 split at h
 ·rename_i at_ u ho
  rw[(pg z v hz ho (fun _ _ _ e=>by cases e)).2]
  split at h
  ·rename_i r hr
   cases h
   dsimp only;rw[vX z v hr hn]
  ·cases h
 ·cases h
theorem xC{p:Program}{w w':World}{a:Addr}{x:Value}{m:Bool}{t:List Addr}{z:Addr}(v:Value)(hz:iH w z.block)(h:w.farStore p a x m=.ok (w',t))(hn:∀b∈t,b≠z):(w.setCell z v).farStore p a x m=.ok (w'.setCell z v,t)∧iH w' z.block:=by
 unfold World.farStore at h ⊢
 split at h
 ·rename_i at_ u ho
  rw[(pg z v hz ho (fun _ _ _ e=>by cases e)).2]
  split at h
  ·rename_i r hr
   cases h
   dsimp only;rw[uE z v hr hn];obtain⟨c,e,f,rfl⟩:=sK hr;exact⟨rfl,hz.put⟩
  ·cases h
 ·cases h
theorem Kw{α:Type}{p:Program}{w w':World}{a:Addr}{m:Bool}{h:Halt}(hh:w.farLoad p a m=.error h):¬Pj (Result.halt h w':Result α):=by
 unfold World.farLoad at hh
 split at hh
 ·split at hh
  ·cases hh
  ·cases hh;rintro (⟨v,e⟩|e)<;>cases e
 ·cases hh;rintro (⟨v,e⟩|e)
  ·exact(kS w a _).1 v e
  ·exact(kS w a _).2 e
theorem HK{α:Type}{p:Program}{w w':World}{a:Addr}{x:Value}{m:Bool}{h:Halt}(hh:w.farStore p a x m=.error h):¬Pj (Result.halt h w':Result α):=by
 unfold World.farStore at hh
 split at hh
 ·split at hh
  ·cases hh
  ·cases hh;rintro (⟨v,e⟩|e)<;>cases e
 ·cases hh;rintro (⟨v,e⟩|e)
  ·exact(kS w a _).1 v e
  ·exact(kS w a _).2 e
theorem run_set{α:Type}{P:Program}{z:Addr}(v:Value):∀(s:Sem α)(w:World)(es:Array Event),iH w z.block→Pj (s.runT P w es).1→(∀e∈(s.runT P w es).2,e.loc≠.cell z)→
 s.runT P (w.setCell z v) es=(M7 z v (s.runT P w es).1,(s.runT P w es).2):=by
 intro s
 induction s with
 |pure a=>intro w es hz hf hn;rfl
 |load m a k ih=>
  intro w es hz hf hn;unfold Sem.runT at hf hn ⊢;cases hc:w.cell? a with
  |some x=>
   simp only[hc] at hf hn ⊢;have ha:a≠z:=fun e=>hn _ (grow (k x) _ _ (Array.mem_push_self ..)) (by rw[e])
   rw[World.cell?_setCell_other _ _ _ _ (fun e=>ha e.symm),hc];exact ih x _ _ hz hf hn
  |none=>
   simp only[hc,vP w a z v hc] at hf hn ⊢;cases hr:w.farLoad P a (m==.atomic) with
   |error h=>simp only[hr] at hf;exact absurd hf (Kw hr)
   |ok r=>
    obtain⟨x,t⟩:=r;simp only[hr] at hf hn ⊢;rw[zk v hz hr fun b hb e=>hn _ (grow (k x) _ _ (Array.mem_append_right _ (Array.mem_map.2 ⟨b,by simpa using hb,rfl⟩))) (by rw[e])];exact ih x _ _ hz hf hn
 |store m a x k ih=>
  intro w es hz hf hn;cases x
  all_goals (first|rfl|skip)
  all_goals
   simp only[Sem.runT] at hf hn ⊢;cases hc:w.cell? a with
   |some y=>
    simp only[hc] at hf hn ⊢
    by_cases b8:w.frozen? a=true
    ·rw[if_pos b8] at hf;exact absurd hf (by rintro (⟨v,e⟩|e)<;>cases e)
    rw[if_neg b8] at hf hn;have ha:a≠z:=fun e=>hn _ (grow k _ _ (Array.mem_push_self ..)) (by rw[e])
    rw[World.cell?_setCell_other _ _ _ _ (fun e=>ha e.symm),hc];simp only[World.frozen?_setCell,b8,if_false];rw[wz w _ v ha];exact ih _ _ (hz.set a _) hf hn
   |none=>
    simp only[hc,vP w a z v hc] at hf hn ⊢
    split at hf
    ·rename_i w1 t hr
     simp only[hr] at hn ⊢;obtain⟨h1,h2⟩:=xC v hz hr fun b hb e=>hn _ (grow k _ _ (Array.mem_append_right _ (Array.mem_map.2 ⟨b,by simpa using hb,rfl⟩))) (by rw[e])
     rw[h1];exact ih _ _ h2 hf hn
    ·rename_i h hr
     exact absurd hf (HK hr)
 |new o k ih=>
  intro w es hz hf hn;simp only[Sem.runT] at hf hn ⊢;have cU:(w.setCell z v).heap.size=w.heap.size:=by simp[World.setCell]
  rw[Gf w o v hz.lt,cU];exact ih _ _ _ (hz.push o) hf hn
 |shape r k ih=>
  intro w es hz hf hn;simp only[Sem.runT,DV] at hf hn ⊢;exact ih _ _ _ hz hf hn
 |freeze a n k ih=>
  intro w es hz hf hn;simp only[Sem.runT,A7] at hf hn ⊢;exact ih _ _ (hz.freeze a n) hf hn
 |frozen a k ih=>
  intro w es hz hf hn;simp only[Sem.runT,World.frozen?_setCell] at hf hn ⊢;exact ih _ _ _ hz hf hn
 |getObj r k ih=>
  intro w es hz hf hn;unfold Sem.runT at hf hn ⊢;cases ho:w.heap[r]? with
  |none=>simp only[ho] at hf;exact absurd hf (by rintro (⟨v,e⟩|e)<;>cases e)
  |some o=>
   cases o
   case cells=>simp only[ho] at hf;exact absurd hf (by rintro (⟨v,e⟩|e)<;>cases e)
   all_goals
    rw[(pg z v hz ho (fun _ _ _ e=>by cases e)).2];simp only[ho] at hf hn ⊢;exact ih _ _ _ hz hf hn
 |setObj r o k ih=>
  intro w es hz hf hn;unfold Sem.runT at hf hn ⊢;cases ho:w.heap[r]? with
  |none=>simp only[ho] at hf;exact absurd hf (by rintro (⟨v,e⟩|e)<;>cases e)
  |some o1=>
   cases o1
   case cells=>simp only[ho] at hf;exact absurd hf (by rintro (⟨v,e⟩|e)<;>cases e)
   all_goals
    obtain⟨aN,eF⟩:=pg z v hz ho (fun _ _ _ e=>by cases e);rw[eF];simp only[ho] at hf hn ⊢
    have hw:({w.setCell z v with heap:=(w.setCell z v).heap.setIfInBounds r o}:World)=World.setCell {w with heap:=w.heap.setIfInBounds r o} z v:=by
     refine gp (fun i=>?_) rfl rfl rfl rfl;have cU:(w.setCell z v).heap.size=w.heap.size:=by simp[World.setCell]
     rw[heap_set];dsimp only;rw[Array.getElem?_setIfInBounds,Array.getElem?_setIfInBounds,heap_set,cU]
     by_cases h1:r=i
     ·subst h1;simp only[if_true,if_neg aN]
     ·rw[if_neg h1,if_neg h1]
    rw[hw];refine ih _ _ ?_ hf hn;obtain⟨c0,e0,f0,h0⟩:=hz;exact⟨c0,e0,f0,(Array.getElem?_setIfInBounds_ne (fun e=>aN e.symm)).trans h0⟩
 |choose q k ih=>
  intro w es hz hf hn;unfold Sem.runT at hf hn ⊢
  by_cases h:q.forced=true
  ·simp only[h,if_true] at hf hn ⊢
   exact ih _ _ _ hz hf hn
  ·simp only[h,if_false,Bool.false_eq_true] at hf hn ⊢
   exact ih _ {w with drawn:=w.drawn+1} _ hz hf hn
 |sys c k ih=>
  intro w es hz hf hn;unfold Sem.runT at hf hn ⊢;obtain⟨h1,h2⟩:=Jb w c z v;rw[h1];refine ih _ _ _ ?_ hf hn;obtain⟨c0,e0,f0,h0⟩:=hz;exact⟨c0,e0,f0,by rw[h2];exact h0⟩
 |program k ih=>
  intro w es hz hf hn;simp only[Sem.runT] at hf hn ⊢;exact ih _ _ _ hz hf hn
 |mark m k ih=>
  intro w es hz hf hn;simp only[Sem.runT] at hf hn ⊢;exact ih _ _ hz hf hn
 |halt h=>intro w es hz hf hn;rfl
end
section
open Go.Conc Go.RowKit
def Ik(D:World→World→Array Event→Prop)(z:Addr):Prop:=∀w w' es,D w w' es→∀e∈es,e.loc≠.cell z
def KZ(P:Program)(main:Bool)(D:World→World→Array Event→Prop)(Ψ:Goroutine→World→Prop)(g:Goroutine)(w:World):Prop:=
 ∃g' w' es,stepG P main g w=.go g' w' es∧D w w' es∧Ψ g' w'∧∀z v,Ik D z→iH w z.block→stepG P main g (w.setCell z v)=.go g' (w'.setCell z v) es
theorem KZ.mono{P:Program}{main:Bool}{D:World→World→Array Event→Prop}{Ψ Ψ':Goroutine→World→Prop}{g:Goroutine}{w:World}(h:KZ P main D Ψ g w)(hp:∀g w,Ψ g w→Ψ' g w):KZ P main D Ψ' g w:=by
 obtain⟨g',w',es,h1,h2,h3,h4⟩:=h;exact⟨g',w',es,h1,h2,hp _ _ h3,h4⟩
structure aC(P:Program)(main:Bool)(D:World→World→Array Event→Prop)(Ψ:Goroutine→World→Prop):Prop where
 at':∀g w d,Ψ g w→Ψ g (w.at d)
 idle:∀w d,D w (w.at d) #[]
 less:∀w w' es iJ,D w w' es→(∀e∈iJ,e∈es)→D w w' iJ
 step:∀g w,g.status=.running→(∀d,KZ P main D Ψ g (w.at d))→Ψ g w
def raw(P:Program)(a:Act)(o:Oper)(w:World):Array Event:=(execOp a.eval o).events P w #[]
theorem mem_listed{P:Program}{a:Act}{o:Oper}{w:World}{e:Event}(h:e∈raw P a o w):e∈(execOp a.eval o).events P w #[]:=h
theorem tu{P:Program}{a:Act}{o:Oper}{w w':World}{x:Next}{z:Addr}(v:Value)(hr:(execOp a.eval o).run P w=.ok x w')(hn:∀e∈raw P a o w,e.loc≠.cell z)(hz:iH w z.block):
 (execOp a.eval o).run P (w.setCell z v)=.ok x (w'.setCell z v)∧raw P a o (w.setCell z v)=raw P a o w:=by
 have h:=run_set v (execOp a.eval o) w #[] hz (by rw[Sem.runT_fst,hr];trivial) hn
 constructor
 ·rw[←Sem.runT_fst (es:=#[]),h,Sem.runT_fst,hr];rfl
 ·unfold raw Sem.events;rw[h]
section
variable{P:Program}{main:Bool}{D:World→World→Array Event→Prop}{Ψ:Goroutine→World→Prop}{b:Frame}{a:Act}{k:List Item}{cs:List Frame}{w:World}
theorem aC.ctl(F:aC P main D Ψ){fr Tb:Frame}{cs dY:List Frame}(h:∀w,stepG P main (G fr cs) w=.go (G Tb dY) w #[])(hk:Ψ (G Tb dY) w):Ψ (G fr cs) w:=
 F.step _ _ rfl fun _=>⟨_,_,_,h _,F.idle _ _,F.at' _ _ _ hk,fun _ _ _ _=>h _⟩
theorem tH{e:Event}{fn:FuncId}{o:Oper}(h:e∈listed P fn a o w):e∈raw P a o w:=Go.Conc.mem_listed h
theorem aC.Zl(F:aC P main D Ψ){ops:Array Oper}{i:Nat}{rest:List Nat}{o:Oper}(ho:ops[i]? =some o)(hw:Region.wanted o (yielded ops a.tmps)=true)(hk:b.kind≠.early)(h:∀d,∀K:Act→World→Prop,(∀a' w',D (w.at d) w' (raw P a o (w.at d))∧Ψ (G (b.at a' (.inRegion ops rest::k)) cs) w'→K a' w')→uponK o a K ((execOp a.eval o).run P (w.at d))):
 Ψ (G (b.at a (.inRegion ops (i::rest)::k)) cs) w:=
 F.step _ _ rfl fun d=>by
  have h':=h d (fun a' W=>D (w.at d) W (raw P a o (w.at d))∧Ψ (G (b.at a' (.inRegion ops rest::k)) cs) W) fun a' w' x=>x
  cases hr:(execOp a.eval o).run P (w.at d) with
  |halt _ _=>rw[hr] at h';exact h'.elim
  |ok x w1=>
   rw[hr] at h';cases x
   case value v=>
    refine⟨_,_,_,stepG_value ho hw hk hr,F.less _ _ _ _ h'.1 fun e he=>tH he,h'.2,fun z v hz hR=>?_⟩;obtain⟨h1,h2⟩:=tu v hr (hz _ _ _ h'.1) hR;rw[stepG_value ho hw hk h1];unfold listed;unfold raw at h2;rw[h2]
   case skip=>
    refine⟨_,_,_,stepG_none ho hw hk hr,F.less _ _ _ _ h'.1 fun e he=>tH he,h'.2,fun z v hz hR=>?_⟩;obtain⟨h1,h2⟩:=tu v hr (hz _ _ _ h'.1) hR;rw[stepG_none ho hw hk h1];unfold listed;unfold raw at h2;rw[h2]
   all_goals exact h'.elim
theorem aC.op(F:aC P main D Ψ){ops:Array Oper}{i:Nat}{rest:List Nat}{o:Oper}(ho:ops[i]? =some o)(hw:Region.wanted o (yielded ops a.tmps)=true)(hk:b.kind≠.early)(h:∀d,∀K:Act→World→Prop,(∀a' w',D (w.at d) (w'.at d) (raw P a o (w.at d))∧Ψ (G (b.at a' (.inRegion ops rest::k)) cs) w'→K a' (w'.at d))→uponK o a K ((execOp a.eval o).run P (w.at d))):
 Ψ (G (b.at a (.inRegion ops (i::rest)::k)) cs) w:=
 F.Zl ho hw hk fun d K hK=>h d K fun a' w' x=>hK a' _ ⟨x.1,F.at' _ _ _ x.2⟩
theorem aC.xT(F:aC P main D Ψ){ops:Array Oper}{i:Nat}{rest:List Nat}{o:Oper}(ho:ops[i]? =some o)(hw:Region.wanted o (yielded ops a.tmps)=true)(hk:b.kind≠.early)(he:∀d,(execOp a.eval o).events P (w.at d) #[]=#[])(h:∀d,∀K:Act→World→Prop,(∀a',Ψ (G (b.at a' (.inRegion ops rest::k)) cs) w→K a' (w.at d))→uponK o a K ((execOp a.eval o).run P (w.at d))):
 Ψ (G (b.at a (.inRegion ops (i::rest)::k)) cs) w:=
 F.op ho hw hk fun d K hK=>h d K fun a' x=>hK a' w ⟨by unfold raw;rw[he d];exact F.idle _ _,x⟩
theorem aC.unwanted(F:aC P main D Ψ){ops:Array Oper}{i:Nat}{rest:List Nat}{o:Oper}(ho:ops[i]? =some o)(hw:Region.wanted o (yielded ops a.tmps)=false)(h:Ψ (G (b.at (a.put o.dst undef) (.inRegion ops rest::k)) cs) w):Ψ (G (b.at a (.inRegion ops (i::rest)::k)) cs) w:=
 F.ctl (fun _=>stepG_unwanted ho hw) h
def late(b:Frame):Bool:=match b.kind with|.early=>false|_=>true
theorem qk{b:Frame}(h:late b=true):b.kind≠.early:=fun z=>by rw[late,z] at h;cases h
theorem aC.oq(F:aC P main D Ψ){ops:Array Oper}{i:Nat}{rest:List Nat}{o:Oper}(ho:ops[i]? =some o)(hw:Region.wanted o (yielded ops a.tmps)=true)(hk:late b=true)(he:∀d,(execOp a.eval o).events P (w.at d) #[]=#[])(h:∀d,∀K:Act→World→Prop,(∀a',Ψ (G (b.at a' (.inRegion ops rest::k)) cs) w→K a' (w.at d))→uponK o a K ((execOp a.eval o).run P (w.at d))):
 Ψ (G (b.at a (.inRegion ops (i::rest)::k)) cs) w:=F.xT ho hw (qk hk) he h
theorem aC.ak(F:aC P main D Ψ){ops:Array Oper}{i:Nat}{rest:List Nat}{o:Oper}{A:Act}(hn:Ψ (G (b.at A (.inRegion ops rest::k)) cs) w)(ho:ops[i]? =some o:=by exact rfl)(hw:Region.wanted o (yielded ops a.tmps)=true:=by exact rfl)(hk:late b=true:=by exact rfl)(he:∀d,(execOp a.eval o).events P (w.at d) #[]=#[]:=by simp[go_sem])(h:∀d,∀K:Act→World→Prop,K A (w.at d)→uponK o a K ((execOp a.eval o).run P (w.at d)):=by intro d K h;go_simp;exact h):
 Ψ (G (b.at a (.inRegion ops (i::rest)::k)) cs) w:=F.oq ho hw hk he fun d K hK=>h d K (hK A hn)
theorem aC.bq(F:aC P main D Ψ){ops:Array Oper}{i:Nat}{rest:List Nat}{o:Oper}(h:Ψ (G (b.at (a.put o.dst undef) (.inRegion ops rest::k)) cs) w)(ho:ops[i]? =some o:=by exact rfl)(hw:Region.wanted o (yielded ops a.tmps)=false:=by exact rfl):Ψ (G (b.at a (.inRegion ops (i::rest)::k)) cs) w:=F.unwanted ho hw h
theorem mV:(∀l:List Value,l.toArray.size=l.length)∧(∀(a:Value)(l:List Value),(a::l).length=l.length+1)∧([]:List Value).length=0∧(∀(n:Nat)(a:Value),Array.replicate (n+1) a=(Array.replicate n a).push a)∧(∀a:Value,Array.replicate 0 a=#[])∧(∀(l:List Value)(a:Value),l.toArray.push a=(l++[a]).toArray)∧(∀l k:List Value,l.toArray++k.toArray=(l++k).toArray)∧(∀l:List Value,[]++l=l)∧(∀(a:Value)(l k:List Value),a::l++k=a::(l++k)):=
 ⟨fun _=>by simp,fun _ _=>rfl,rfl,fun _ _=>Array.replicate_succ,fun _=>rfl,fun _ _=>by simp,fun _ _=>by simp,fun _=>rfl,fun _ _ _=>rfl⟩
def rg:List Oper→Nat→List Nat
 |[],_=>[]
 |_::l,n=>n::rg l (n+1)
theorem yE(l:List Oper):List.range l.toArray.size=rg l 0:=by
 have h:∀(l:List Oper)(n:Nat),rg l n=List.range' n l.length:=by
  intro l
  induction l with
  |nil=>intro n;rfl
  |cons x l ih=>intro n;simp[rg,ih,List.range'_succ]
 rw[h,List.range_eq_range']
 simp
theorem no{x:Bool}{p:Prop}(h:x=false)(h':x=true):p:=by rw[h] at h';cases h'
theorem dN{x y:Bool}(h:x=true→y=true)(hy:y=false):x=false:=by
 cases hx:x with
 |false=>rfl
 |true=>have:=h hx;rw[hy] at this;cases this
theorem aC.re(F:aC P main D Ψ){ops:Array Oper}(h:Ψ (G (b.at a (k)) cs) w):Ψ (G (b.at a (.inRegion ops []::k)) cs) w:=F.ctl (fun _=>stepG_region_end) h
theorem aC.sq(F:aC P main D Ψ){x y:Code}(h:Ψ (G (b.at a (.code x::.code y::k)) cs) w):Ψ (G (b.at a (.code (.seq x y)::k)) cs) w:=F.ctl (fun _=>stepG_seq) h
theorem aC.rr(F:aC P main D Ψ){id:Nat}{l:List Oper}(h:Ψ (G (b.at a (.inRegion l.toArray (rg l 0)::k)) cs) w):Ψ (G (b.at a (.code (.region id l.toArray false)::k)) cs) w:=F.ctl (fun _=>stepG_region) (by rw[yE];exact h)
theorem aC.sr(F:aC P main D Ψ){id:Nat}{l:List Oper}{y:Code}(h:Ψ (G (b.at a (.inRegion l.toArray (rg l 0)::.code y::k)) cs) w):Ψ (G (b.at a (.code (.seq (.region id l.toArray false) y)::k)) cs) w:=F.sq (F.rr h)
theorem aC.es(F:aC P main D Ψ){ops:Array Oper}{x y:Code}(h:Ψ (G (b.at a (.code x::.code y::k)) cs) w):Ψ (G (b.at a (.inRegion ops []::.code (.seq x y)::k)) cs) w:=F.re (F.sq h)
theorem aC.er(F:aC P main D Ψ){ops:Array Oper}{id:Nat}{l:List Oper}(h:Ψ (G (b.at a (.inRegion l.toArray (rg l 0)::k)) cs) w):Ψ (G (b.at a (.inRegion ops []::.code (.region id l.toArray false)::k)) cs) w:=F.re (F.rr h)
theorem aC.XT(F:aC P main D Ψ){ops:Array Oper}{id:Nat}{l:List Oper}{y:Code}(h:Ψ (G (b.at a (.inRegion l.toArray (rg l 0)::.code y::k)) cs) w):Ψ (G (b.at a (.inRegion ops []::.code (.seq (.region id l.toArray false) y)::k)) cs) w:=F.re (F.sr h)
theorem aC.nJ(F:aC P main D Ψ){id:Nat}{l:List Oper}{r:List Nat}(h:Ψ (G (b.at a (.inRegion l.toArray r::k)) cs) w)(hr:rg l 0=r:=by simp only[rg,Nat.reduceAdd];exact rfl):Ψ (G (b.at a (.code (.region id l.toArray false)::k)) cs) w:=F.rr (hr▸h)
theorem aC.bh(F:aC P main D Ψ){id:Nat}{l:List Oper}{y:Code}{r:List Nat}(h:Ψ (G (b.at a (.inRegion l.toArray r::.code y::k)) cs) w)(hr:rg l 0=r:=by simp only[rg,Nat.reduceAdd];exact rfl):Ψ (G (b.at a (.code (.seq (.region id l.toArray false) y)::k)) cs) w:=F.sr (hr▸h)
theorem aC.Ey(F:aC P main D Ψ){ops:Array Oper}{id:Nat}{l:List Oper}{r:List Nat}(h:Ψ (G (b.at a (.inRegion l.toArray r::k)) cs) w)(hr:rg l 0=r:=by simp only[rg,Nat.reduceAdd];exact rfl):Ψ (G (b.at a (.inRegion ops []::.code (.region id l.toArray false)::k)) cs) w:=F.er (hr▸h)
theorem aC.cI(F:aC P main D Ψ){ops:Array Oper}{id:Nat}{l:List Oper}{y:Code}{r:List Nat}(h:Ψ (G (b.at a (.inRegion l.toArray r::.code y::k)) cs) w)(hr:rg l 0=r:=by simp only[rg,Nat.reduceAdd];exact rfl):Ψ (G (b.at a (.inRegion ops []::.code (.seq (.region id l.toArray false) y)::k)) cs) w:=F.XT (hr▸h)
theorem aC.cf(F:aC P main D Ψ){c:Operand}{x y:Code}(e:a.eval c=.bool false)(h:Ψ (G (b.at a (.code y::k)) cs) w):Ψ (G (b.at a (.code (.cond c x y)::k)) cs) w:=F.ctl (fun _=>stepG_cond (t:=false) e) h
theorem aC.ct(F:aC P main D Ψ){c:Operand}{x y:Code}(e:a.eval c=.bool true)(h:Ψ (G (b.at a (.code x::k)) cs) w):Ψ (G (b.at a (.code (.cond c x y)::k)) cs) w:=F.ctl (fun _=>stepG_cond (t:=true) e) h
theorem aC.sk(F:aC P main D Ψ)(h:Ψ (G (b.at a (k)) cs) w):Ψ (G (b.at a (.code .skip::k)) cs) w:=F.ctl (fun _=>stepG_skip) h
theorem aC.bl(F:aC P main D Ψ){id:Nat}{c:Code}(h:Ψ (G (b.at a (.code c::.inBlock id::k)) cs) w):Ψ (G (b.at a (.code (.block id c)::k)) cs) w:=F.ctl (fun _=>stepG_block) h
theorem aC.ib(F:aC P main D Ψ){id:Nat}(h:Ψ (G (b.at a (k)) cs) w):Ψ (G (b.at a (.inBlock id::k)) cs) w:=F.ctl (fun _=>stepG_inBlock) h
def cj(P:Program)(main:Bool)(D:World→World→Array Event→Prop)(f:FuncId)(args:Array Value)(w:World)(Post:Value→World→Prop):Prop:=
 ∀Ψ,aC P main D Ψ→∀c cs,(∀v w',Post v w'→Ψ (G (c.finish v) cs) w')→Ψ (G (Frame.enter P f args .normal) (c::cs)) w
theorem cj.mono{f:FuncId}{args:Array Value}{Post Mw:Value→World→Prop}(h:cj P main D f args w Post)(hp:∀v w',Post v w'→Mw v w'):cj P main D f args w Mw:=
 fun Ψ F c cs hc=>h Ψ F c cs fun v w' x=>hc v w' (hp v w' x)
theorem aC.enter(F:aC P main D Ψ){ops:Array Oper}{i:Nat}{rest:List Nat}{o:Oper}{f:FuncId}{args:Array Value}(ho:ops[i]? =some o)(hw:Region.wanted o (yielded ops a.tmps)=true)(hk:b.kind≠.early)(hr:∀d,(execOp a.eval o).run P (w.at d)=.ok (.enter f args) (w.at d))(he:∀d,(execOp a.eval o).events P (w.at d) #[]=#[])(h:Ψ (G (Frame.enter P f args .normal) (b.at a (.inRegion ops (i::rest)::k)::cs)) w):Ψ (G (b.at a (.inRegion ops (i::rest)::k)) cs) w:=
 F.step _ _ rfl fun d=>⟨_,w.at d,_,by rw[stepG_enter ho hw hk (hr d),listed_nil (he d)],F.idle _ _,F.at' _ _ _ h,fun z v _ hR=>by
  obtain⟨h1,h2⟩:=tu (z:=z) v (hr d) (fun e hm=>by unfold raw at hm;rw[he d] at hm;simp at hm) hR;rw[stepG_enter ho hw hk h1,listed_nil (h2.trans (he d))]⟩
theorem aC.aF(F:aC P main D Ψ){fn:Func}{todo:List Item}{c:Frame}{v:Value}(hn:b.kind=.normal)(hd:a.defers=[])(hf:P.funcs[b.fn]? =some fn)(hr:ResultsC P fn a.tmps v)(h:Ψ (G (c.finish v) cs) w):Ψ (G {b.at a todo with mode:=.returning} (c::cs)) w:=
 F.step _ _ rfl fun _=>⟨_,_,_,stepG_leave hn hd hf (hr _).1 (hr _).2,F.idle _ _,F.at' _ _ _ h,fun _ _ _ _=>stepG_leave hn hd hf (hr _).1 (hr _).2⟩
end
theorem bB:∀(l:List Bool)(i:Nat)(h:i<l.length),l[i]=false→((l.set i true).filter id).length=(l.filter id).length+1
 |x::xs,0,_,h=>by
  have:x=false:=h;subst this
  simp
 |x::xs,i+1,h,h0=>by
  have ih:=bB xs i (by simpa using h) (by simpa using h0);cases x<;>simp[ih]
section
variable{P:Program}{main:Bool}{D:World→World→Array Event→Prop}{Ψ:Goroutine→World→Prop}{b:Frame}{k:List Item}{cs:List Frame}{ops:Array Oper}
theorem BX(md:Region.Mode)(l:Array Bool)(h:∀j,j<ops.size→l.getD j true=true)(fuel t:Nat):Region.linearise.go md ops fuel t l []=[]:=by
 cases fuel with
 |zero=>simp[Region.linearise.go]
 |succ fuel=>
  have kY:((List.range ops.size).filter fun i=>!l.getD i true&&((ops[i]?).map (·.after.all fun e=>!Region.binds md e||l.getD e.on false)).getD false)=[]:=by
   rw[List.filter_eq_nil_iff];intro j hj;rw[h j (List.mem_range.1 hj)]
   simp
  simp only[Region.linearise.go,kY]
  simp
theorem KA(md:Region.Mode)(I:Array Bool→Act→World→Prop)(gI:∀(i:Nat)(o:Oper),ops[i]? =some o→∀e∈o.after,Region.binds md e=true→e.on<i)(cU:∀l a w,I l a w→l.size=ops.size)(eK:∀(l:Array Bool)(a:Act)(w:World)(i:Nat)(o:Oper),I l a w→ops[i]? =some o→l.getD i true=false→(∀e∈o.after,Region.binds md e=true→l.getD e.on false=true)→∀rest,((∀j,j<ops.size→j≠i→l.getD j true=true)→rest=[])→
 (∀a' w',I (l.setIfInBounds i true) a' w'→Ψ (G (b.at a' (.inRegion ops rest::k)) cs) w')→Ψ (G (b.at a (.inRegion ops (i::rest)::k)) cs) w)(gJ:∀l a w,I l a w→(∀i,i<ops.size→l.getD i true=true)→Ψ (G (b.at a (.inRegion ops []::k)) cs) w):
 ∀(fuel t:Nat)(l:Array Bool)(a:Act)(w:World),I l a w→(∃m,m+fuel=ops.size∧(l.toList.filter id).length=m)→Ψ (G (b.at a (.inRegion ops (Region.linearise.go md ops fuel t l [])::k)) cs) w:=by
 intro fuel
 have aB:∀l a w,I l a w→((List.range ops.size).filter fun i=>!l.getD i true&&((ops[i]?).map (·.after.all fun e=>!Region.binds md e||l.getD e.on false)).getD false)=[]→∀i,i<ops.size→l.getD i true=true:=by
  intro l a w hI hr i
  induction i using Nat.strongRecOn with
  |_ i ih=>
   intro hi
   by_cases h:l.getD i true=true
   ·exact h
   have bY:i∈((List.range ops.size).filter fun i=>!l.getD i true&&((ops[i]?).map (·.after.all fun e=>!Region.binds md e||l.getD e.on false)).getD false):=by
    refine List.mem_filter.2 ⟨List.mem_range.2 hi,?_⟩;have h0:l.getD i true=false:=by simpa using h
    have ho:ops[i]? =some ops[i]:=Array.getElem?_eq_getElem hi;simp only[h0,Bool.not_false,Bool.true_and,ho,Option.map_some,Option.getD_some,Array.all_eq_true_iff_forall_mem];intro e he;cases vE:Region.binds md e with
    |false=>simp
    |true=>
    have aT:=gI i _ ho e he vE;have h1:=ih e.on aT (Nat.lt_trans aT hi);have hl:e.on<l.size:=by rw[cU l a w hI];exact Nat.lt_trans aT hi
    have h2:l.getD e.on false=true:=by
     simp only[Array.getD,hl,dif_pos] at h1 ⊢;exact h1
    simp[h2]
   rw[hr] at bY;cases bY
 induction fuel with
 |zero=>
  intro t l a w hI ⟨m,hm,hc⟩;simp only[Region.linearise.go,List.reverse_nil];refine gJ l a w hI fun i hi=>?_
  have Ef:l.toList.length=ops.size:=by rw[Array.length_toList];exact cU l a w hI
  have jl:(l.toList.filter id).length=l.toList.length:=by omega
  have:=List.length_filter_eq_length_iff.1 jl;have dJ:i<l.size:=by rw[cU l a w hI];exact hi
  have h3:=this l[i] (by simp);simp only[Array.getD,dJ,dif_pos]
  simpa using h3
 |succ fuel ih=>
  intro t l a w hI ⟨m,hm,hc⟩;simp only[Region.linearise.go];generalize kY:((List.range ops.size).filter fun i=>!l.getD i true&&((ops[i]?).map (·.after.all fun e=>!Region.binds md e||l.getD e.on false)).getD false)=rs;cases hi:rs[t % rs.length]? with
  |none=>
   have ji:rs=[]:=by
    cases rs with
    |nil=>rfl
    |cons x xs=>
     have aT:t % (x::xs).length<(x::xs).length:=Nat.mod_lt _ (by simp);rw[List.getElem?_eq_getElem aT] at hi;cases hi
   simp only[List.reverse_nil];exact gJ l a w hI (aB l a w hI (kY.trans ji))
  |some i=>
   have bY:i∈rs:=List.mem_of_getElem? hi;rw[←kY] at bY;obtain⟨hr,hf⟩:=List.mem_filter.1 bY;have aT:i<ops.size:=List.mem_range.1 hr;have ho:ops[i]? =some ops[i]:=Array.getElem?_eq_getElem aT;simp only[ho,Option.map_some,Option.getD_some,Bool.and_eq_true,Bool.not_eq_true',Array.all_eq_true_iff_forall_mem] at hf
   simp only
   rw[linearise_go_acc,List.reverse_singleton,List.singleton_append];refine eK l a w i ops[i] hI ho hf.1 (fun e he hb=>?_) _ (fun iI=>BX md _ (fun j hj=>?_) _ _) fun a' w' jU=>?_
   ·have:=hf.2 e he
    simpa [hb] using this
   ·have dI:i<l.size:=by rw[cU l a w hI];exact aT
    have LY:j<l.size:=by rw[cU l a w hI];exact hj
    by_cases AQ:j=i
    ·subst AQ;simp[Array.getD,dI]
    ·have:=iI j hj AQ
     rw[Array.getD_eq_getD_getElem?] at this ⊢;rw[Array.getElem?_setIfInBounds_ne (fun z=>AQ z.symm)];exact this
   ·refine ih _ _ _ _ jU ⟨m+1,by omega,?_⟩
    have dI:i<l.size:=by rw[cU l a w hI];exact aT
    have h0:l[i]=false:=by have:=hf.1;simpa [Array.getD,dI] using this
    rw[Array.toList_setIfInBounds];exact hc▸bB l.toList i dI h0
end
theorem aC.draw{P:Program}{main:Bool}{D:World→World→Array Event→Prop}{Ψ:Goroutine→World→Prop}{b:Frame}{k:List Item}{cs:List Frame}{ops:Array Oper}{id:Nat}{a:Act}{w:World}(F:aC P main D Ψ)(hm:P.follows .mixedOrders=true)(I:Array Bool→Act→World→Prop)(gI:∀(i:Nat)(o:Oper),ops[i]? =some o→∀e∈o.after,Region.binds .any e=true→e.on<i)(cU:∀l a w,I l a w→l.size=ops.size)(h0:I (Array.replicate ops.size false) a w)(eK:∀(l:Array Bool)(a:Act)(w:World)(i:Nat)(o:Oper),I l a w→ops[i]? =some o→l.getD i true=false→(∀e∈o.after,Region.binds .any e=true→l.getD e.on false=true)→∀rest,((∀j,j<ops.size→j≠i→l.getD j true=true)→rest=[])→
 (∀a' w',I (l.setIfInBounds i true) a' w'→Ψ (G (b.at a' (.inRegion ops rest::k)) cs) w')→Ψ (G (b.at a (.inRegion ops (i::rest)::k)) cs) w)(gJ:∀l a w,I l a w→(∀i,i<ops.size→l.getD i true=true)→Ψ (G (b.at a (.inRegion ops []::k)) cs) w):
 Ψ (G (b.at a (.code (.region id ops true)::k)) cs) w:=by
 refine F.step _ _ rfl fun d=>⟨_,_,_,stepG_region_draw,F.idle _ _,?_,fun z v _ _=>stepG_region_draw⟩
 show Ψ _ (w.at (d+1))
 refine F.at' _ _ _ ?_;simp only[Region.schedule,hm,Bool.true_or,if_true,Region.linearise];exact KA .any I gI cU eK gJ _ _ _ _ _ h0 ⟨0,by simp,by simp⟩
def Fg(Ok:Addr→Bool→Prop)(w':World)(e:Event):Prop:=(∃a:Addr,e.loc=.cell a∧e.sync=e.sync∧Ok a e.write∧a.block<w'.heap.size)∨e=noRoomEvent
structure DX(Ok:Addr→Bool→Prop)(w w':World)(es:Array Event):Prop where
 ev:∀e∈es,Fg Ok w' e
 size:w.heap.size≤w'.heap.size
 obj:∀(c:Nat)(o:Obj),w.heap[c]? =some o→(∀cs t f,o≠Obj.cells cs t f)→w'.heap[c]? =some o
 cell:∀a:Addr,¬Ok a true→a.block<w.heap.size→w'.cell? a=w.cell? a∧w'.frozen? a=w.frozen? a
 blk:∀k:Nat,k<w.heap.size→(∀a:Addr,a.block=k→¬Ok a true)→w'.heap[k]? =w.heap[k]?
 rest:w'.os=w.os∧w'.tape=w.tape∧w'.output=w.output
section
variable{Ok:Addr→Bool→Prop}{w w':World}{es:Array Event}
theorem DX.idle(w:World)(d:Nat):DX Ok w (w.at d) #[]:=⟨by simp,Nat.le_refl _,fun _ _ h _=>h,fun _ _ _=>⟨rfl,rfl⟩,fun _ _ _=>rfl,rfl,rfl,rfl⟩
theorem DX.less{iJ:Array Event}(h:DX Ok w w' es)(hs:∀e∈iJ,e∈es):DX Ok w w' iJ:=⟨fun e he=>h.ev e (hs e he),h.size,h.obj,h.cell,h.blk,h.rest⟩
theorem xE:∀w w' es iJ,DX Ok w w' es→(∀e∈iJ,e∈es)→DX Ok w w' iJ:=fun _ _ _ _ h hs=>h.less hs
theorem DX.still(d:Nat)(h:∀e∈es,Fg Ok (w.at d) e):DX Ok (w.at d) (w.at d) es:=⟨h,Nat.le_refl _,fun _ _ h _=>h,fun _ _ _=>⟨rfl,rfl⟩,fun _ _ _=>rfl,rfl,rfl,rfl⟩
theorem aq{a:Addr}{v:Value}(h:w.cell? a=some v):a.block<w.heap.size:=by
 unfold World.cell? at h
 split at h
 ·rename_i h';exact(Array.getElem?_eq_some_iff.1 h').1
 ·cases h
theorem DX.set{a:Addr}{v:Value}(d:Nat)(ok:Ok a true)(h:∀e∈es,Fg Ok ((w.setCell a v).at d) e):DX Ok (w.at d) ((w.setCell a v).at d) es:=by
 refine⟨h,by show w.heap.size≤(w.setCell a v).heap.size;simp[World.setCell],fun c o ho hn=>?_,fun x hx aT=>?_,fun k hk hn=>Below.heap_setCell w a v k (fun e=>hn a e.symm ok),rfl,rfl,rfl⟩
 ·show(w.setCell a v).heap[c]? =some o
  have eF:w.heap[c]? =some o:=ho;simp only[World.setCell,Array.getElem?_modify,eF]
  split
  ·cases o<;>first|rfl|exact absurd rfl (hn _ _ _)
  ·rfl
 ·have aN:a≠x:=fun e=>hx (e▸ok)
  exact⟨World.cell?_setCell_other _ _ _ _ aN,World.frozen?_setCell _ _ _ _⟩
theorem DX.alloc(d:Nat)(o:Obj)(h:∀e∈es,Fg Ok ((w.alloc o).at d) e):DX Ok (w.at d) ((w.alloc o).at d) es:=by
 refine⟨h,by show w.heap.size≤(w.alloc o).heap.size;simp,fun c x hx _=>?_,fun x _ aT=>?_,fun k hk _=>Below.heap_alloc w o k hk,rfl,rfl,rfl⟩
 ·have pG:w.heap[c]? =some x:=hx
  show(w.alloc o).heap[c]? =some x
  rw[Below.heap_alloc _ _ _ ((Array.getElem?_eq_some_iff.1 pG).1)];exact pG
 ·have Ee:x.block<w.heap.size:=aT
  exact⟨World.cell?_alloc_lt _ _ _ Ee,World.frozen?_alloc_past _ _ _ Ee⟩
end
theorem aC.ol{Ok:Addr→Bool→Prop}{P:Program}{main:Bool}{Ψ:Goroutine→World→Prop}{b:Frame}{a:Act}{k:List Item}{cs:List Frame}{w:World}(F:aC P main (DX Ok) Ψ){ops:Array Oper}{i:Nat}{rest:List Nat}{o:Oper}(ho:ops[i]? =some o)(hw:Region.wanted o (yielded ops a.tmps)=true)(hk:late b=true)(h:∀d,∀K:Act→World→Prop,(∀a',(∀e∈(execOp a.eval o).events P (w.at d) #[],Fg Ok (w.at d) e)→Ψ (G (b.at a' (.inRegion ops rest::k)) cs) w→K a' (w.at d))→uponK o a K ((execOp a.eval o).run P (w.at d))):
 Ψ (G (b.at a (.inRegion ops (i::rest)::k)) cs) w:=
 F.op ho hw (qk hk) fun d K hK=>h d K fun a' he x=>hK a' w ⟨DX.still _ fun e hm=>he e (mem_listed hm),x⟩
theorem ff{Ok:Addr→Bool→Prop}{w:World}{d:Nat}{a:Addr}{v:Value}{wr sy:Bool}(h:w.cell? a=some v)(ok:Ok a wr):Fg Ok (w.at d) ⟨.cell a,wr,sy⟩:=.inl ⟨a,rfl,rfl,ok,aq h⟩
end
section
open Go.Conc
open Go.ConcN (sumTo upd sumTo_upd upd_ne upd_same)
def Acc(Shun:Loc→Prop)(h:Nat)(t:Trace)(i:Nat):Prop:=
 i<t.size∧(Knows t h i∨∃a,touchAt t i=some a∧a.kind=.atomic∧Shun a.loc∧¬t.heard i)∧∀a,touchAt t i=some a→Shun a.loc→a.kind≠.plain∧(a.kind=.said→t.g? i=some 0)
section
variable{Shun Still:Loc→Prop}{Mem Lo:Nat→Prop}{B h j c:Nat}{t u:Trace}
theorem Acc.app{i:Nat}(H:Acc Shun h t i)(u:Trace):Acc Shun h (t++u) i:=by
 obtain⟨hi,hk,hn⟩:=H;refine⟨by simp;omega,hk.imp (Knows.app u) fun⟨a,ha,x1,x2,x3⟩=>⟨a,by rw[touchAt_old hi];exact ha,x1,x2,fun z=>x3 ((heard_old hi).1 z)⟩,fun a ha hs=>?_⟩;rw[touchAt_old hi] at ha;rw[g?_old hi];exact hn a ha hs
theorem Acc.to{i:Nat}(H:Acc Shun h t i)(hk:Knows t h i→Knows (t++u) j i):Acc Shun j (t++u) i:=by
 obtain⟨hi,gB,hn⟩:=H;refine⟨by simp;omega,gB.imp hk fun⟨a,ha,x1,x2,x3⟩=>⟨a,by rw[touchAt_old hi];exact ha,x1,x2,fun z=>x3 ((heard_old hi).1 z)⟩,fun a ha hs=>?_⟩;rw[touchAt_old hi] at ha;rw[g?_old hi];exact hn a ha hs
def xN(Shun Still:Loc→Prop)(B h:Nat)(e:Event):Prop:=
 (∀x,(MemAct.ofEvent e).touch? =some x→(Still x.loc→x.write=false)∧(Shun x.loc→x.kind≠.plain∧(x.kind=.said→h=0)))∧(MemAct.ofEvent e).low B
theorem Gg(H:PastG Still Mem Lo B (Acc Shun h t) t){fn:FuncId}{pos:String}{es:Array Event}(fu:∀e∈es,xN Shun Still B h e)(hd:Mem h→deafBehind (Deaf t h) es=Deaf t h):
 PastG Still Mem Lo B (Acc Shun h (t++MemOp.ofEvents h fn pos es)) (t++MemOp.ofEvents h fn pos es):=by
 have hu:∀op∈MemOp.ofEvents h fn pos es,op.g=h:=fun op aQ=>by obtain⟨e,_,rfl⟩:=Go.Conc.mem_ofEvents aQ;rfl
 have dS:∀op∈MemOp.ofEvents h fn pos es,∀b,op.act.touch? =some b→(Still b.loc→b.write=false)∧(Shun b.loc→b.kind≠.plain∧(b.kind=.said→h=0)):=fun op aQ b hb=>by
  obtain⟨e,he,rfl⟩:=Go.Conc.mem_ofEvents aQ;exact(fu e he).1 b hb
 refine⟨fun said=>noRace_append (H.clean said) hu fun i a ha op aQ b hb hc=>?_,fun i a ha hm=>?_,fun i a ha hw hS g hg=>?_,fun g hg=>?_,fun op aQ=>?_⟩
 ·obtain⟨e1,e2,e3,e4⟩:=hc
  rcases H.known i a ha e2 with ⟨_,hk,_⟩|⟨hw,hS,_⟩
  ·rcases hk with hk|⟨a',mA,nD,Cf,_⟩
   ·exact hk
   ·have ea:a'=a:=by rw[ha] at mA;exact(Option.some.inj mA).symm
    subst ea;have zK:=(dS op aQ b hb).2 (e1▸Cf);rcases e4 with x|x|⟨_,x,_⟩
    ·rw[nD] at x;cases x
    ·exact absurd x zK.1
    ·rw[nD] at x;cases x
  ·rcases e3 with x|x
   ·rw[hw] at x;cases x
   ·have:=(dS op aQ b hb).1 (e1▸hS)
    rw[this] at x;cases x
 ·obtain⟨x,hx,oK⟩:=touch_of ha
  rcases getElem?_append_cases hx with ⟨hi,pG⟩|⟨_,qT⟩
  ·rcases H.known i a (by rw[touchAt_of pG];exact oK) hm with hk|⟨p,q,g,hg,hl⟩
   ·exact .inl (hk.app _)
   ·exact .inr ⟨p,q,g,by rw[g?_old hi];exact hg,hl⟩
  ·have hk:=knows_own hx
   rw[hu x qT] at hk;refine .inl ⟨lt_size_of_getElem? hx,.inl hk,fun a' mA hs=>?_⟩;have ea:a'=a:=by rw[show touchAt _ i=some a from ha] at mA;exact(Option.some.inj mA).symm
   subst ea;obtain⟨h1,h2⟩:=(dS x qT a' oK).2 hs;exact⟨h1,fun h3=>by rw[g?_of hx,hu x qT,h2 h3]⟩
 ·obtain⟨x,hx,oK⟩:=touch_of ha
  rcases getElem?_append_cases hx with ⟨_,pG⟩|⟨_,qT⟩
  ·exact(H.wrote i a (by rw[touchAt_of pG];exact oK) hw hS g hg).app _
  ·rw[(dS x qT a oK).1 hS] at hw;cases hw
 ·by_cases e:g=h
  ·subst e;rw[Deaf_own,hd hg];exact H.hears g hg
  ·rw[Deaf_other t (fun z=>e z.symm) _ hu];exact H.hears g hg
 ·rcases Array.mem_append.1 aQ with aQ|aQ
  ·exact H.seen op aQ
  ·obtain⟨e,he,rfl⟩:=Go.Conc.mem_ofEvents aQ;exact(fu e he).2
end
end
section
open Go.Conc
open Go.ConcN (sumTo upd sumTo_upd upd_ne upd_same)
def Walk(P:Program)(main:Bool)(D:World→World→Array Event→Prop)(Stop:Goroutine→World→Prop)(g:Goroutine)(w:World):Prop:=
 ∀R:Goroutine→World→Prop,(∀g w,(∀d,Stop g (w.at d))→R g w)→(∀g w,g.status=.running→(∀d,∃g' w' es,stepG P main g (w.at d)=.go g' w' es∧D (w.at d) w' es∧R g' w')→R g w)→R g w
section
variable{P:Program}{main:Bool}{D:World→World→Array Event→Prop}{Stop:Goroutine→World→Prop}{g:Goroutine}{w:World}
theorem Walk.stop(h:∀d,Stop g (w.at d)):Walk P main D Stop g w:=fun _ hs _=>hs g w h
theorem Walk.step(hs:g.status=.running)(h:∀d,∃g' w' es,stepG P main g (w.at d)=.go g' w' es∧D (w.at d) w' es∧Walk P main D Stop g' w'):Walk P main D Stop g w:=
 fun R h0 h1=>h1 g w hs fun d=>by
  obtain⟨g',w',es,a,b,c⟩:=h d;exact⟨g',w',es,a,b,c R h0 h1⟩
theorem Walk.ind{M:Goroutine→World→Prop}(h:Walk P main D Stop g w)(h0:∀g w,(∀d,Stop g (w.at d))→M g w)(h1:∀g w,g.status=.running→(∀d,∃g' w' es,stepG P main g (w.at d)=.go g' w' es∧D (w.at d) w' es∧Walk P main D Stop g' w'∧M g' w')→M g w):M g w:=
 (h (fun g w=>Walk P main D Stop g w∧M g w) (fun g w x=>⟨.stop x,h0 g w x⟩) fun g w hs x=>⟨.step hs fun d=>by
   obtain⟨g',w',es,a,b,c,_⟩:=x d;exact⟨g',w',es,a,b,c⟩,h1 g w hs x⟩).2
end
theorem yh{P:Program}{main:Bool}{D:World→World→Array Event→Prop}(hi:∀w d,D w (w.at d) #[])(hl:∀w w' es iJ,D w w' es→(∀e∈iJ,e∈es)→D w w' iJ)(Stop:Goroutine→World→Prop):aC P main D (Walk P main D Stop):=by
 refine⟨fun g w d h=>?_,hi,hl,fun g w hs h=>.step hs fun d=>?_⟩
 ·refine h.ind (M:=fun g w=>Walk P main D Stop g (w.at d)) (fun g w h=>.stop fun d'=>h d') fun g w hs h=>.step hs fun d'=>?_
  obtain⟨g',w',es,a,b,c,_⟩:=h d';exact⟨g',w',es,a,b,c⟩
 ·obtain⟨g',w',es,h1,h2,h3,_⟩:=h d
  exact⟨g',w',es,h1,h2,h3⟩
def R2(P:Program)(K:World→Prop)(Shun Still:Loc→Prop)(B:Nat)(Mem:Nat→Prop)(Inb:Nat→Option Seat)(h:Nat)(T:Trace)(gs:Array Goroutine)(w:World)(q:Nat→Nat):Prop:=
 TokCore P K Still B (Acc Shun h) Mem (fun g=>g≠h∧(Inb g).isSome) Inb (·=h) (fun _=>False) T gs w q
section
variable{P:Program}{K:World→Prop}{Shun Still:Loc→Prop}{B B':Nat}{Mem:Nat→Prop}{Inb:Nat→Option Seat}{h:Nat}{T:Trace}{gs:Array Goroutine}{w:World}{q:Nat→Nat}
theorem mB{main:Bool}{R:World→World→Prop}{D D':World→World→Array Event→Prop}{S S':Goroutine→World→Prop}(hD:∀w w' es,D w w' es→D' w w' es)(hS:∀g w,S g w→S' g w):
 ∀{n:Nat}{g:Goroutine}{w:World},Goes P main R D S n g w→Goes P main R D' S' n g w
 |0,_,_,h=>fun w₁ r=>hS _ _ (h w₁ r)
 |n+1,_,_,h=>h.elim (fun x=>.inl fun w₁ r=>hS _ _ (x w₁ r)) fun⟨hs,x⟩=>.inr ⟨hs,fun w₁ r=>by
  have:=x w₁ r
  revert this
  cases stepG P main _ w₁<;>simp only[GStep.goes,imp_self]
  exact fun⟨d,y⟩=>⟨hD _ _ _ d,mB hD hS y⟩⟩
theorem AtIn.raise{main:Bool}{s:Seat}{g g₂:Goroutine}(hB:B≤B')(x:AtIn P main K Still B s g g₂):AtIn P main K Still B' s g g₂:=by
 obtain⟨h1,h2,h3,h4,h5,es,fu,bN⟩:=x;exact⟨h1,h2,h3,h4,h5,es,fun e he=>by obtain⟨a,e1,e2,e3⟩:=fu e he;exact⟨a,e1,e2,Nat.lt_of_lt_of_le e3 hB⟩,bN⟩
theorem Sits.raise{main:Bool}{s:Seat}{n:Nat}{g:Goroutine}(hB:B≤B')(x:Sits P main K Still B s n g):Sits P main K Still B' s n g:=by
 rcases x with ⟨k,w,e,hg⟩|⟨e,g₀,g₂,e2,nD⟩
 ·exact .inl ⟨k,w,e,mB (fun _ _ _ ⟨d1,d2⟩=>⟨d1,fun e he=>by obtain⟨a,e1,e2,e3⟩:=d2 e he;exact⟨a,e1,e2,Nat.lt_of_lt_of_le e3 hB⟩⟩) (fun _ _ ⟨g₂,y⟩=>⟨g₂,AtIn.raise hB y⟩) hg⟩
 ·exact .inr ⟨e,g₀,g₂,e2,AtIn.raise hB nD⟩
theorem Bj{Kf:Trace→Nat→Prop}{Lo Sp Ua:Nat→Prop}(C:TokCore P K Still B Kf Mem Lo Inb Sp Ua T gs w q)(hB:B≤B'):TokCore P K Still B' Kf Mem Lo Inb Sp Ua T gs w q:=
 ⟨fun i g hi hg=>by
  have:=C.idle i g hi hg;cases e:Inb i with
  |none=>rw[e] at this;exact this
  |some s=>rw[e] at this;exact Sits.raise hB this,C.chans,C.wf,C.live,C.inj,C.above,fun i s e=>⟨(C.mem i s e).1,fun c hc=>Nat.lt_of_lt_of_le ((C.mem i s e).2 c hc) hB⟩,C.nomem,C.lo,C.past.mono hB,C.keep⟩
theorem R2.awake(C:R2 P K Shun Still B Mem Inb h T gs w q){a:Goroutine}(ha:gs[h]? =some a)(hs:a.status=.running∨a.status=.blocked)(g:Goroutine)(hg:g∈gs):Go.Conc.awake g:=by
 obtain⟨i,Cv⟩:=Array.mem_iff_getElem?.1 hg;refine awake_of ?_
 by_cases e:i=h
 ·rw[e,ha] at Cv
  cases Cv
  exact hs.imp_right .inl
 have dz:=C.idle i g e Cv
 revert dz
 cases Inb i with
 |none=>exact fun z=>z.2.status.imp_right .inr
 |some s=>exact fun z=>(Go.Conc.Sits.status C.keep z).imp And.left fun y=>.inl y.1
theorem R2.own(C:R2 P K Shun Still B Mem Inb h T gs w q){a a':Goroutine}{w':World}{es:Array Event}(ha:gs[h]? =some a)(hK:K w')(eC:∀i s c,Inb i=some s→s.has c→w'.heap[c]? =w.heap[c]?)(fu:∀e∈es,xN Shun Still B h e)(hd:Mem h→deafBehind (Deaf T h) es=Deaf T h):
 R2 P K Shun Still B Mem Inb h (T++MemOp.ofEvents h a.frame.fn a.frame.place es) ((gs.map (woken P a a' w')).setIfInBounds h a') w' q∧((gs.map (woken P a a' w')).setIfInBounds h a')[h]? =some a':=by
 have aT:h<gs.size:=(Array.getElem?_eq_some_iff.1 ha).1;have gU:∀op∈MemOp.ofEvents h a.frame.fn a.frame.place es,op.g=h:=fun op aQ=>by obtain⟨e,_,rfl⟩:=Go.Conc.mem_ofEvents aQ;rfl
 have C':TokCore P K Still B (Acc Shun h) Mem (fun g=>g≠h∧(Inb g).isSome) Inb (·=h) (fun _=>False) T gs w' q:=
  ⟨C.idle,fun i s c hi e hc=>by obtain⟨cap,k,hk⟩:=C.chans i s c hi e hc;exact⟨cap,k,(eC i s c e hc).trans hk⟩,C.wf,C.live,C.inj,C.above,C.mem,C.nomem,C.lo,C.past,hK⟩
 refine⟨⟨fun x y hx hy=>?_,C'.chans,C.wf,fun _ _ z=>z.elim,C.inj,fun j hj=>?_,C.mem,C.nomem,C.lo,Gg C.past fu hd,hK⟩,Array.getElem?_setIfInBounds_self_of_lt (by simpa using aT)⟩
 ·rw[Array.getElem?_setIfInBounds_ne (fun e=>hx e.symm),Array.getElem?_map] at hy
  obtain⟨y₀,hy₀,rfl⟩:=Option.map_eq_some_iff.1 hy;rw[woken_of_again (C'.fixed hx hy₀)];have hi:=C.idle x y₀ hx hy₀;cases e:Inb x with
  |none=>rw[e] at hi;exact⟨hi.1,by rw[Deaf_other T (fun z=>hx z.symm) _ gU];exact hi.2⟩
  |some s=>rw[e] at hi;exact hi
 ·simp only[Array.size_setIfInBounds,Array.size_map] at hj
  rw[Deaf_other T (g':=h) (by omega) _ gU];exact C.above j hj
theorem EH{Kf:Trace→Nat→Prop}{Lo Sp:Nat→Prop}(hKf:∀t u i,Kf t i→Kf (t++u) i)(C:TokCore P K Still B Kf Mem Lo Inb Sp (fun _=>False) T gs w q){i:Nat}{g:Goroutine}{sl:Option (Nat×Nat)}(hi:gs[i]? =some g)(eE:¬Sp i)(hn:Inb i=none)(fM:g.status=.running)(hsA:∀x gx,Sp x→gs[x]? =some gx→gx.again w=gx):
 ∃(bQ:Array Goroutine)(ops:Array MemOp)(q':Nat→Nat),runT P (crowd gs w sl) i=(.next (crowd bQ w sl),ops)∧(∀op∈ops,op.g=i)∧bQ.size=gs.size∧(∀x,x≠i→bQ[x]? =gs[x]?)∧(∀x,x≠i→q' x=q x)∧
   TokCore P K Still B Kf Mem Lo Inb Sp (fun _=>False) (T++ops) bQ w q'∧sumTo gs.size q'<sumTo gs.size q:=by
 have aT:i<gs.size:=(Array.getElem?_eq_some_iff.1 hi).1;have dz:=C.idle i g eE hi;rw[hn] at dz;obtain⟨yU,hq⟩:=dz;have yV:(i==0)=false:=by simp;omega
 cases uv:q i with
 |zero=>rw[uv] at hq;rw[hq.1] at fM;cases fM
 |succ k=>
  rw[uv] at hq;rcases hq with ⟨hf,_⟩|⟨_,g',es,hm,wR,dQ⟩
  ·rw[hf] at fM;cases fM
  have gU:∀op∈MemOp.ofEvents i g.frame.fn g.frame.place es,op.g=i:=fun op aQ=>by obtain⟨e,_,rfl⟩:=Go.Conc.mem_ofEvents aQ;rfl
  have jI:∀x,x≠i→((gs.map (woken P g g' w)).setIfInBounds i g')[x]? =gs[x]? :=by
   intro x hx;rw[Array.getElem?_setIfInBounds_ne (fun e=>hx e.symm),Array.getElem?_map];cases e:gs[x]? with
   |none=>rfl
   |some y=>
    have:woken P g g' w y=y:=woken_of_again (by
     by_cases pF:Sp x
     ·exact hsA x y pF e
     ·exact C.fixed pF e)
    simp[this]
  refine⟨_,_,upd q i k,runT_crowd_go (sl:=sl) hi (by rw[yV];exact wR w),gU,by simp,jI,fun x hx=>upd_ne q k hx,?_,?_⟩
  ·refine C.put aT (by simp) jI (Array.getElem?_setIfInBounds_self_of_lt (by simpa using aT)) gU (fun z=>z.elim) (by rw[hn];exact⟨yU,by rw[Deaf_own];exact dQ⟩) ?_
   exact C.past.appMute (hKf T _) gU (fun op aQ=>by obtain⟨e,he,rfl⟩:=Go.Conc.mem_ofEvents aQ;exact touch_mute (hm e he)) (fun hM=>((C.nomem i hM).elim (fun z=>absurd hn z) (fun z=>absurd z eE))) (fun op aQ=>by obtain⟨e,he,rfl⟩:=Go.Conc.mem_ofEvents aQ;exact low_mute (hm e he) B)
  ·have h2:sumTo gs.size (upd q i k)+(k+1)=sumTo gs.size q+k:=by
    have:=sumTo_upd q k id aT
    simpa [uv] using this
   omega
end
structure DR(K:World→Prop)(Shun Still:Loc→Prop)(h:Nat)(w w':World)(es:Array Event):Prop where
 keep:K w→K w'
 chan:∀(c cap k:Nat),w.heap[c]? =some (Obj.chan cap #[] false k k false)→w'.heap[c]? =w.heap[c]?
 size:w.heap.size≤w'.heap.size
 ev:∀e∈es,xN Shun Still w'.heap.size h e∧e.loc≠.mark .disable∧e.loc≠.mark .enable
section
variable{P:Program}{K:World→Prop}{Shun Still:Loc→Prop}{Mem:Nat→Prop}{Inb:Nat→Option Seat}{h:Nat}
theorem hold{D:World→World→Array Event→Prop}{Stop:Goroutine→World→Prop}(yY:∀w d,K w→K (w.at d))(hD:∀w w' es,D w w' es→DR K Shun Still h w w' es)(Hx:Mem h∨∀i,Inb i=none){a:Goroutine}{w:World}(hW:Walk P (h==0) D Stop a w):∀(gs:Array Goroutine)(T:Trace)(q:Nat→Nat)(sl:Option (Nat×Nat)),gs[h]? =some a→R2 P K Shun Still w.heap.size Mem Inb h T gs w q→
 ∃N bQ a' w' fN T' q',runNT P N (crowd gs w sl) T=(.next (crowd bQ w' fN),T')∧bQ.size=gs.size∧bQ[h]? =some a'∧Stop a' w'∧R2 P K Shun Still w'.heap.size Mem Inb h T' bQ w' q'∧Deaf T' h=Deaf T h:=by
 refine Walk.ind (M:=fun a w=>∀(gs:Array Goroutine)(T:Trace)(q:Nat→Nat)(sl:Option (Nat×Nat)),gs[h]? =some a→R2 P K Shun Still w.heap.size Mem Inb h T gs w q→
  ∃N bQ a' w' fN T' q',runNT P N (crowd gs w sl) T=(.next (crowd bQ w' fN),T')∧bQ.size=gs.size∧bQ[h]? =some a'∧Stop a' w'∧R2 P K Shun Still w'.heap.size Mem Inb h T' bQ w' q'∧Deaf T' h=Deaf T h) hW ?_ ?_
 ·exact fun a w bN gs T q sl ha C=>⟨0,gs,_,_,sl,T,q,rfl,rfl,ha,bN _,C,rfl⟩
 ·intro a w hs hx
  have H8:∀(μ:Nat)(gs:Array Goroutine)(T:Trace)(q:Nat→Nat)(sl:Option (Nat×Nat))(d₀:Nat),sumTo gs.size q=μ→gs[h]? =some a→R2 P K Shun Still w.heap.size Mem Inb h T gs (w.at d₀) q→
   ∃N bQ a' w' fN T' q',runNT P N (crowd gs (w.at d₀) sl) T=(.next (crowd bQ w' fN),T')∧bQ.size=gs.size∧bQ[h]? =some a'∧Stop a' w'∧R2 P K Shun Still w'.heap.size Mem Inb h T' bQ w' q'∧Deaf T' h=Deaf T h:=by
   intro μ
   induction μ using Nat.strongRecOn with
   |_ μ ihμ=>
    intro gs T q sl d₀ hμ ha C;obtain⟨i,g,d,fN,hi,hg,tL⟩:=crowd_pick (P:=P) (w:=w.at d₀) (sl:=sl) (C.awake ha (.inl hs)) ⟨h,a,ha,hs⟩;have Cd:R2 P K Shun Still w.heap.size Mem Inb h T gs (w.at d) q:=TokCore.at yY C d;have oA:stepT P (crowd gs (w.at d₀) sl)=runT P (crowd gs (w.at d) fN) i:=tL;have next:∀{m₁ ops},runT P (crowd gs (w.at d) fN) i=(.next m₁,ops)→∀N,runNT P (N+1) (crowd gs (w.at d₀) sl) T=runNT P N m₁ (T++ops):=fun e N=>by simp only[runNT,oA,e]
    by_cases e:i=h
    ·subst e
     obtain rfl:g=a:=by rw[ha] at hi;exact(Option.some.inj hi).symm
     obtain⟨g1,w1,es1,bN,SS,_,ih⟩:=hx d;have hr:=hD _ _ _ SS;have hmarks:Mem i→deafBehind (Deaf T i) es1=Deaf T i:=fun _=>deafBehind_still (fun e he=>(hr.ev e he).2) _
     obtain⟨C',mA⟩:=R2.own (a':=g1) (Bj Cd hr.size) ha (hr.keep Cd.keep) (fun i s c e hc=>by obtain⟨cap,k,hk⟩:=Cd.chans i s c (fun z=>z) e hc;exact hr.chan c cap k hk) (fun e he=>(hr.ev e he).1) hmarks;obtain⟨N',bQ,a',w',zZ,T',q',h1,h2,h3,h4,h5,h6⟩:=ih _ _ _ fN mA C';refine⟨N'+1,bQ,a',w',zZ,T',q',by rw[next (runT_crowd_go (sl:=fN) hi bN)];exact h1,by rw[h2];simp,h3,h4,h5,?_⟩;rw[h6,Deaf_own];exact deafBehind_still (fun e he=>(hr.ev e he).2) _
    ·cases EY:Inb i with
     |none=>
      obtain⟨bQ,ops,q',sv,gU,cU,jI,_,C',aT⟩:=EH (Kf:=Acc Shun h) (sl:=fN) (fun t u i x=>Acc.app x u) Cd hi e EY hg (fun x gx hx vB=>by subst hx;rw[ha] at vB;obtain rfl:=Option.some.inj vB;exact again_running _ (.inl hs));obtain⟨N',A0,a',w',zZ,T',Ni,h1,h2,h3,h4,h5,h6⟩:=ihμ (sumTo bQ.size q') (by rw[cU];omega) bQ _ q' fN d rfl (by rw[jI h (fun z=>e z.symm)];exact ha) C';exact⟨N'+1,A0,a',w',zZ,T',Ni,by rw[next sv];exact h1,by rw[h2,cU],h3,h4,h5,by rw[h6];exact Deaf_other T (fun z=>e z) _ gU⟩
     |some s=>
      have hM:Mem h:=Hx.elim id fun z=>by rw[z i] at EY;cases EY
      obtain⟨bQ,ops,q',sv,cU,eE,_,_,C',aT⟩:=TokCore.by_step (Kf:=Acc Shun h) (sl:=fN) (fun t u i x=>Acc.app x u) Cd hi e hg (fun x gx hx vB=>by subst hx;rw[ha] at vB;obtain rfl:=Option.some.inj vB;exact again_running _ (.inl hs)) (fun z=>z.elim)
       (fun s' g₂ _ _=>⟨fun z=>z,fun x gx c hx vB _=>by subst hx;rw[ha] at vB;obtain rfl:=Option.some.inj vB;exact offersAt_of_not_blocked (by rw[hs];simp) _ _⟩)
      obtain⟨N',A0,a',w',zZ,T',Ni,h1,h2,h3,h4,h5,h6⟩:=ihμ (sumTo bQ.size q') (by rw[cU];omega) bQ _ q' fN d rfl (by rw[eE h rfl];exact ha) C';exact⟨N'+1,A0,a',w',zZ,T',Ni,by rw[next sv];exact h1,by rw[h2,cU],h3,h4,h5,by rw[h5.past.hears h hM,C.past.hears h hM]⟩
  exact fun gs T q sl ha C=>H8 _ gs T q sl w.drawn rfl ha C
end
end
section
open Go.Conc
open Go.ConcN (sumTo upd sumTo_upd upd_ne upd_same)
section
variable{Shun Still:Loc→Prop}{Mem Lo:Nat→Prop}{B h j c:Nat}{t:Trace}
end
theorem Ju{P:Program}{m m₁:Machine}{t:Trace}{ops:Array MemOp}(h:stepT P m=(.next m₁,ops)):runNT P 1 m t=(.next m₁,t++ops):=by simp only[runNT,h]
section
variable{P:Program}{K:World→Prop}{Shun Still:Loc→Prop}{B:Nat}{Mem:Nat→Prop}{Inb:Nat→Option Seat}{h:Nat}{T:Trace}{gs:Array Goroutine}{w:World}{q:Nat→Nat}
section
variable{a a₂:Goroutine}{j c k kk:Nat}{s:Seat}{v z z':Value}{es:Array Event}
theorem sW(cD:s.Wf)(hk:s.cases[kk]? =some (rcase c z)):∀(m:Nat)(cc:CommCase),m≠kk→s.cases[m]? =some cc→cc.chan≠.chan (some c):=by
 intro m cc hm lR ec;obtain⟨c₂,z₂,rfl⟩:=cD.recvs cc (Array.mem_of_getElem? lR);simp only[rcase,Value.chan.injEq,Option.some.injEq] at ec;subst ec;exact hm (cD.apart m kk _ _ _ lR hk)
end
end
end
section
open Go.Conc
open Go.ConcN (sumTo upd sumTo_upd upd_ne upd_same)
abbrev zB(P:Program)(K:World→Prop)(Shun:Loc→Prop)(B:Nat)(Mem:Nat→Prop)(T:Trace)(gs:Array Goroutine)(w:World)(q:Nat→Nat):Prop:=R2 P K Shun (fun _=>False) B Mem (fun _=>none) 0 T gs w q
section
variable{P:Program}{K:World→Prop}{Shun:Loc→Prop}{B:Nat}{Mem:Nat→Prop}{T:Trace}{gs:Array Goroutine}{w:World}{q:Nat→Nat}{a:Goroutine}
theorem l6{P:Program}{N:Nat}{m m₁ m₂:Machine}{t t₁:Trace}{ops:Array MemOp}(h:runNT P N m t=(.next m₁,t₁))(hs:stepT P m₁=(.next m₂,ops)):runNT P (N+1) m t=(.next m₂,t₁++ops):=by
 have:=runNT_succ_of h hs;exact this
theorem zB.hears(C:zB P K Shun B Mem T gs w q)(hd:Deaf T 0=0):zB P K Shun B (fun g=>g=0) T gs w q:=
 ⟨C.idle,C.chans,C.wf,C.live,C.inj,C.above,fun i s e=>(by cases e),fun i hi=>.inr hi,fun i s _ e=>(by cases e),⟨C.past.clean,fun i a ha hm=>(C.past.known i a ha hm).imp id fun x=>x.2.1.elim,fun _ _ _ _ hS=>hS.elim,fun g hg=>(by rw[hg];exact hd),C.past.seen⟩,C.keep⟩
theorem vN{K':World→Prop}(C:zB P K Shun B Mem T gs w q)(h:K' w):zB P K' Shun B Mem T gs w q:=
 ⟨fun i g hi hg=>C.idle i g hi hg,C.chans,C.wf,C.live,C.inj,C.above,C.mem,C.nomem,C.lo,C.past,h⟩
end
end
section
open Go.Conc
open Go.ConcN (sumTo upd sumTo_upd upd_ne upd_same)
abbrev uJ(a:Addr):Event:=⟨.cell a,false,true⟩
abbrev ES(a:Addr):Event:=⟨.cell a,true,true⟩
abbrev vr(m:Mark):Event:=⟨.mark m,false,true⟩
def jv(k:IntKind)(a:Addr)(w:World)(n:Int):Prop:=w.cell? a=some (.int k n)∧w.frozen? a=false
structure rR where
 st:Addr
 se:Addr
 ne:st≠se
section
variable(P:Program)(K:World→Prop)(Shun:Loc→Prop)(B:Nat)(Gp:rR)(Anchor:Goroutine→Prop)
end
section
variable{P:Program}{K:World→Prop}{Shun:Loc→Prop}{B:Nat}{Gp:rR}{Anchor:Goroutine→Prop}{M M':Nat→Goroutine→Prop}{Q Q':Goroutine→Prop}{t n:Nat}{g g' gK g0 gh gm g1:Goroutine}
end
section
variable{a c:Nat}{s m:Int}
end
def dM(a:Nat):Nat:=if a=0∨a=7∨a=8 then 0 else 1
def dC(c:Nat):Nat:=if c≤1 then 0 else 1
section
variable{P:Program}{K:World→Prop}{Shun Still:Loc→Prop}{B:Nat}{Mem Lo:Nat→Prop}{h c:Nat}{t:Trace}
def u9(d:Nat)(es:Array Event):Prop:=∀(k:Nat)(e:Event),es[k]? =some e→(MemAct.ofEvent e).touch? ≠none→0<d∧∀(j:Nat)(e':Event),j<k→es[j]? =some e'→e'.loc≠.mark .enable
theorem iX{d:Nat}{es:Array Event}(h:∀e∈es,(MemAct.ofEvent e).touch? =none):u9 d es:=fun k e he ht=>absurd (h e (Array.mem_of_getElem? he)) ht
theorem mY{d:Nat}{es:Array Event}(hd:0<d)(h:∀e∈es,e.loc≠.mark .enable):u9 d es:=fun _ _ _ _=>⟨hd,fun _ e' _ he=>h e' (Array.mem_of_getElem? he)⟩
theorem GS{d:Nat}(hd:0<d)(a:Addr):u9 d (semEvents a):=by
 intro k e he ht;refine⟨hd,fun j e' hj yW=>?_⟩;rcases k with _|_|_|_|k
 ·omega
 ·obtain rfl:j=0:=by omega
  simp[semEvents] at yW;subst yW;simp
 ·rcases j with _|_|j
  ·simp[semEvents] at yW;subst yW;simp
  ·simp[semEvents] at yW;subst yW;simp
  ·omega
 ·simp[semEvents] at he;subst he;exact absurd rfl ht
 ·simp[semEvents] at he
theorem CO{t u:Trace}{g:Nat}:∀(k:Nat),k≤u.size→(∀j y,j<k→u[j]? =some y→y.act≠.mark .enable)→Deaf t g≤(t++u).deaf g (t.size+k)
 |0,_,_=>by rw[Nat.add_zero,deaf_old (Nat.le_refl _)];exact Nat.le_refl _
 |k+1,hk,h=>by
  have ih:=CO (t:=t) (g:=g) k (by omega) fun j y hj=>h j y (by omega)
  have hy:(t++u)[t.size+k]? =some u[k]:=by rw[Array.getElem?_append_right (by omega)];simp
  have hn:=h k u[k] (by omega) (Array.getElem?_eq_getElem (by omega));rw[←Nat.add_assoc,deaf_succ hy];refine Nat.le_trans ih ?_;unfold deafStep
  split
  ·split<;>omega
  ·rename_i hx;exact absurd hx hn
  ·exact Nat.le_refl _
theorem Aj(H:PastG Still Mem Lo B (Acc Shun h t) t)(Hv:∀l,Still l→¬Shun l){fn:FuncId}{pos:String}{es:Array Event}(fu:∀e∈es,(∀x,(MemAct.ofEvent e).touch? =some x→x.kind=.atomic∧Shun x.loc)∧(MemAct.ofEvent e).low B)(hM:¬Mem c)(hh:u9 (Deaf t c) es):
 PastG Still Mem Lo B (Acc Shun h (t++MemOp.ofEvents c fn pos es)) (t++MemOp.ofEvents c fn pos es):=by
 have hu:∀op∈MemOp.ofEvents c fn pos es,op.g=c:=fun op aQ=>by obtain⟨e,_,rfl⟩:=Go.Conc.mem_ofEvents aQ;rfl
 have dS:∀op∈MemOp.ofEvents c fn pos es,∀b,op.act.touch? =some b→b.kind=.atomic∧Shun b.loc:=fun op aQ b hb=>by
  obtain⟨e,he,rfl⟩:=Go.Conc.mem_ofEvents aQ;exact(fu e he).1 b hb
 refine⟨fun said=>noRace_append (H.clean said) hu fun i a ha op aQ b hb hc=>?_,fun i a ha hm=>?_,fun i a ha hw hS g hg=>?_,fun g hg=>?_,fun op aQ=>?_⟩
 ·obtain⟨e1,e2,e3,e4⟩:=hc
  obtain⟨b1,b2⟩:=dS op aQ b hb;have Cf:Shun a.loc:=e1▸b2;rcases H.known i a ha e2 with ⟨_,_,hnp⟩|⟨_,hS,_⟩
  ·rcases e4 with x|x|⟨_,_,x⟩
   ·exact absurd x (hnp a ha Cf).1
   ·rw[b1] at x;cases x
   ·rw[b1] at x;cases x
  ·exact absurd Cf (Hv _ hS)
 ·obtain⟨x,hx,oK⟩:=touch_of ha
  rcases getElem?_append_cases hx with ⟨hi,pG⟩|⟨PN,qT⟩
  ·rcases H.known i a (by rw[touchAt_of pG];exact oK) hm with hk|⟨p,q,g,hg,hl⟩
   ·exact .inl (hk.app _)
   ·exact .inr ⟨p,q,g,by rw[g?_old hi];exact hg,hl⟩
  ·obtain⟨b1,b2⟩:=dS x qT a oK
   have UG:¬(t++MemOp.ofEvents c fn pos es).heard i:=by
    rintro ⟨g,hg,h0⟩
    have aT:=lt_size_of_getElem? hx;have PN:t.size≤i:=by assumption
    obtain⟨k,rfl⟩:∃k,i=t.size+k:=⟨i-t.size,by omega⟩;have LD:(MemOp.ofEvents c fn pos es)[k]? =some x:=by rw[Array.getElem?_append_right (by omega)] at hx;simpa using hx
    have hgc:g=c:=by rw[g?_of hx] at hg;rw[←Option.some.inj hg];exact hu x qT
    subst hgc;rw[ofEvents_eq,Array.getElem?_map] at LD;obtain⟨e,he,rfl⟩:=Option.map_eq_some_iff.1 LD;obtain⟨h1,h2⟩:=hh k e he (by rw[show(MemAct.ofEvent e).touch? =some a from oK];simp)
    have:=CO (t:=t) (u:=MemOp.ofEvents g fn pos es) (g:=g) k (by rw[ofEvents_eq];simp;exact Nat.le_of_lt (Array.getElem?_eq_some_iff.1 he).1) (fun j y hj hy=>by
     rw[ofEvents_eq,Array.getElem?_map] at hy;obtain⟨e',yW,rfl⟩:=Option.map_eq_some_iff.1 hy;intro z;have z':MemAct.ofEvent e'=.mark .enable:=z;refine h2 j e' hj yW ?_;obtain⟨loc,wr,sy⟩:=e';cases loc with
     |mark m=>simpa [MemAct.ofEvent] using z'
     |obj c=>cases wr<;>cases sy<;>simp[MemAct.ofEvent] at z'
     |_=>simp[MemAct.ofEvent] at z')
    omega
   refine .inl ⟨lt_size_of_getElem? hx,.inr ⟨a,ha,b1,b2,UG⟩,fun a' mA _=>?_⟩;have ea:a'=a:=by rw[show touchAt _ i=some a from ha] at mA;exact(Option.some.inj mA).symm
   subst ea;exact⟨by rw[b1];simp,fun z=>by rw[b1] at z;cases z⟩
 ·obtain⟨x,hx,oK⟩:=touch_of ha
  rcases getElem?_append_cases hx with ⟨_,pG⟩|⟨_,qT⟩
  ·exact(H.wrote i a (by rw[touchAt_of pG];exact oK) hw hS g hg).app _
  ·exact absurd (dS x qT a oK).2 (Hv _ hS)
 ·rw[Deaf_other t (show c≠g from fun z=>hM (by rw[z];exact hg)) _ hu];exact H.hears g hg
 ·rcases Array.mem_append.1 aQ with aQ|aQ
  ·exact H.seen op aQ
  ·obtain⟨e,he,rfl⟩:=Go.Conc.mem_ofEvents aQ;exact(fu e he).2
end
section
variable{P:Program}{K:World→Prop}{Shun:Loc→Prop}{B c:Nat}{T:Trace}{gs:Array Goroutine}{w:World}{q:Nat→Nat}
end
section
variable{P:Program}{K:World→Prop}{Shun:Loc→Prop}{B c:Nat}{Gp:rR}{Anchor:Goroutine→Prop}
def Joined(P:Program)(K:World→Prop)(Shun:Loc→Prop)(B:Nat)(Gp:rR)(Anchor:Goroutine→Prop)(n:Nat)(m:Machine)(t:Trace):Prop:=
 ∃gs w sl q a,m=crowd gs w sl∧gs.size=n∧gs[0]? =some a∧Anchor a∧zB P K Shun B (fun _=>False) t gs w q∧Deaf t 0=0∧jv .u64 Gp.st w 0∧jv .u32 Gp.se w 0
theorem kR{k:IntKind}{a:Addr}{w:World}{n:Int}(h:jv k a w n)(v:Int):jv k a (w.setCell a (.int k v)) v:=⟨World.cell?_setCell_same _ _ _ h.1,by rw[World.frozen?_setCell];exact h.2⟩
theorem gw{k k':IntKind}{a b:Addr}{w:World}{n:Int}(h:jv k a w n)(aN:b≠a)(v:Int):jv k a (w.setCell b (.int k' v)) n:=⟨(World.cell?_setCell_other _ _ _ _ aN).trans h.1,by rw[World.frozen?_setCell];exact h.2⟩
structure JK(K:World→Prop)(Shun:Loc→Prop)(B:Nat)(Gp:rR):Prop where
 at':∀w d,K w→K (w.at d)
 st:∀w v,K w→K (w.setCell Gp.st v)
 se:∀w v,K w→K (w.setCell Gp.se v)
 yw:Shun (.cell Gp.st)
 Qw:Shun (.cell Gp.se)
 zG:Gp.st.block<B
 Q6:Gp.se.block<B
theorem iG{Still:Loc→Prop}{h:Nat}{m:Mark}(hm:(MemAct.mark m).touch? =none)(hl:(MemAct.mark m).low B):xN Shun Still B h (vr m):=by
 refine⟨fun x hx=>?_,hl⟩;have:(MemAct.ofEvent (vr m)).touch? =none:=hm;rw[this] at hx;cases hx
theorem dO{Still:Loc→Prop}{h:Nat}{a:Addr}{wr:Bool}(hS:¬Still (.cell a))(hl:a.block<B):xN Shun Still B h ⟨.cell a,wr,true⟩:=by
 refine⟨fun x hx=>?_,hl⟩;have:(MemAct.ofEvent ⟨.cell a,wr,true⟩).touch? =some ⟨.cell a,wr,.atomic⟩:=rfl;rw[this] at hx;obtain rfl:=Option.some.inj hx;exact⟨fun z=>absurd z hS,fun _=>⟨by simp,fun z=>by cases z⟩⟩
theorem kJ{m:Mark}(hm:(MemAct.mark m).touch? =none)(hl:(MemAct.mark m).low B):(∀x,(MemAct.ofEvent (vr m)).touch? =some x→x.kind=.atomic∧Shun x.loc)∧(MemAct.ofEvent (vr m)).low B:=by
 refine⟨fun x hx=>?_,hl⟩;have:(MemAct.ofEvent (vr m)).touch? =none:=hm;rw[this] at hx;cases hx
theorem cS{a:Addr}{wr:Bool}(hS:Shun (.cell a))(hl:a.block<B):(∀x,(MemAct.ofEvent ⟨.cell a,wr,true⟩).touch? =some x→x.kind=.atomic∧Shun x.loc)∧(MemAct.ofEvent ⟨.cell a,wr,true⟩).low B:=by
 refine⟨fun x hx=>?_,hl⟩;have:(MemAct.ofEvent ⟨.cell a,wr,true⟩).touch? =some ⟨.cell a,wr,.atomic⟩:=rfl;rw[this] at hx;obtain rfl:=Option.some.inj hx;exact⟨rfl,hS⟩
theorem HM{Q:Event→Prop}{a:Addr}(h1:Q (vr .disable))(h2:Q (uJ a))(h3:Q (ES a))(h4:Q (vr .enable)):∀e∈semEvents a,Q e:=by
 intro e he;simp only[semEvents,List.mem_toArray,List.mem_cons,List.not_mem_nil,or_false] at he;rcases he with rfl|rfl|rfl|rfl<;>assumption
theorem dF{Q:Event→Prop}{e₀:Event}(h:Q e₀):∀e∈#[e₀],Q e:=by intro e he;simp at he;subst he;exact h
theorem qE{Q:Event→Prop}{e₀ e₁:Event}(h:Q e₀)(h':Q e₁):∀e∈#[e₀,e₁],Q e:=by intro e he;simp at he;rcases he with rfl|rfl<;>assumption
theorem tX{Q:Event→Prop}:∀e∈(#[]:Array Event),Q e:=by intro e he;simp at he
theorem I9{a:Goroutine}(hs:a.status=.running):{{a with status:=.blocked} with status:=.running}=a:=by
 cases a;simp_all
theorem uD(P:Program)(g g':Goroutine)(w:World){a:Goroutine}(hs:a.status=.running)(ho:a.offers=none):woken P g g' w {a with status:=.blocked}=a∨(woken P g g' w {a with status:=.blocked}={a with status:=.blocked}∧¬(mayWake P g=true∧g'.status=.running)):=by
 unfold woken
 split
 ·left
  have:({a with status:=.blocked}:Goroutine).again w={{a with status:=.blocked} with status:=.running}:=by unfold Goroutine.again;simp[ho]
  rw[this];exact I9 hs
 ·rename_i hn
  refine .inr ⟨rfl,fun⟨h1,h2⟩=>hn (by simp[h1,h2])⟩
end
end
end Go.Proofs.YtobagnjnbmgidaaGreatDoor
