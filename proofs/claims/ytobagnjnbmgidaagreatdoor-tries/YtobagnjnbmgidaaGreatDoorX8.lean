import Derived.Test.YtobagnjnbmgidaaGreatDoorChecked
import Derived.Test.YtobagnjnbmgidaaGreatDoorZ1
import Derived.Conc.TokenWords
import Derived.Laws.AppendOwn
import Derived.Maps.AppendAt
set_option linter.all false
set_option maxRecDepth 100000
namespace Go.Proofs.YtobagnjnbmgidaaGreatDoor
open Tryz
section
open Go.Conc Go.RowKit
variable{main:Bool}{Ok:Addr→Bool→Prop}
end
section
open Go.Conc Go.RowKit
theorem mixed:prog.follows .mixedOrders=true:=by kernel_rfl
theorem aC.Pw{P:Program}{main:Bool}{D:World→World→Array Event→Prop}{Ψ:Goroutine→World→Prop}{b:Frame}{a:Act}{k:List Item}{cs:List Frame}{w:World}(F:aC P main D Ψ){ops:Array Oper}{i:Nat}{rest:List Nat}{o:Oper}(ho:ops[i]? =some o)(hw:Region.wanted o (yielded ops a.tmps)=true)(hk:b.kind≠.early)(h:∀d,∀K:Act→World→Prop,(∀a' w',D (w.at d) w' (raw P a o (w.at d))∧Ψ (G (b.at a' (.inRegion ops rest::k)) cs) w'→K a' w')→uponK o a K ((execOp a.eval o).run P (w.at d))):
 Ψ (G (b.at a (.inRegion ops (i::rest)::k)) cs) w:=
 F.Zl ho hw hk h
structure Kp(L:List Nat)(w w':World)(C:List Addr:=[]):Prop where
 size:w.heap.size≤w'.heap.size
 cellC:∀(a:Addr)(v:Value),a.block∉L→a∉C→w.cell? a=some v→w'.cell? a=some v
 jq:∀(a:Addr)(v:Value),a.block∉L→a∉C→w.cell? a=some v→w'.frozen? a=w.frozen? a
 blk:∀(k:Nat)(c:Array Value)(t:TypeId)(f:Nat×Nat),k∉L→(∀x∈C,x.block≠k)→w.heap[k]? =some (.cells c t f)→w'.heap[k]? =some (.cells c t f)
section
variable{L L':List Nat}{C C':List Addr}{w w' w₁ w₂:World}{a p:Addr}{v v':Value}{o:Obj}{n i:Nat}
theorem Kp.cell(h:Kp L w w')(a:Addr)(v:Value)(hn:a.block∉L)(hc:w.cell? a=some v):w'.cell? a=some v:=h.cellC a v hn (by simp) hc
theorem Kp.OG(h:Kp L w w')(a:Addr)(v:Value)(hn:a.block∉L)(hc:w.cell? a=some v):w'.frozen? a=w.frozen? a:=h.jq a v hn (by simp) hc
theorem Kp.refl(w:World):Kp L w w C:=⟨Nat.le_refl _,fun _ _ _ _ h=>h,fun _ _ _ _ _=>rfl,fun _ _ _ _ _ _ h=>h⟩
theorem Kp.lG(k:Kp L w w' C)(h:Kp L' w' w₁ C')(hL:∀x∈L',x∈L∨w.heap.size≤x)(hC:∀x∈C',x∈C∨x.block∈L∨w.heap.size≤x.block):Kp L w w₁ C:=by
 have hn:∀(a:Addr)(v:Value),a.block∉L→a∉C→w.cell? a=some v→a.block∉L'∧a∉C':=fun a v hn eP hc=>⟨fun z=>(hL _ z).elim hn fun y=>absurd (aq hc) (Nat.not_lt.2 y),fun z=>(hC _ z).elim eP fun y=>y.elim hn fun y=>absurd (aq hc) (Nat.not_lt.2 y)⟩
 exact⟨Nat.le_trans k.size h.size,fun a v EX uW hc=>h.cellC a v (hn a v EX uW hc).1 (hn a v EX uW hc).2 (k.cellC a v EX uW hc),fun a v EX uW hc=>(h.jq a v (hn a v EX uW hc).1 (hn a v EX uW hc).2 (k.cellC a v EX uW hc)).trans (k.jq a v EX uW hc),fun b c t f hb Z2 ho=>h.blk b c t f (fun z=>(hL _ z).elim hb fun y=>absurd (Array.getElem?_eq_some_iff.1 ho).1 (Nat.not_lt.2 y)) (fun x hx e=>(hC x hx).elim (fun y=>Z2 x y e) fun y=>y.elim (fun y=>hb (e▸y)) fun y=>absurd (Array.getElem?_eq_some_iff.1 ho).1 (Nat.not_lt.2 (e▸y))) (k.blk b c t f hb Z2 ho)⟩
theorem Kp.Mp(k:Kp L w w' C)(h:Kp L' w' w₁)(hL:∀x∈L',x∈L∨w.heap.size≤x):Kp L w w₁ C:=k.lG h hL (by simp)
theorem Kp.old(h:Kp L w w' C)(hL:∀x∈L,x∈L'∨w.heap.size≤x)(hC:∀x∈C,x∈C'∨x.block∈L'∨w.heap.size≤x.block):Kp L' w w' C':=(Kp.refl w).lG h hL hC
theorem lE(hc:a.block<w.heap.size):(w.alloc o).frozen? a=w.frozen? a:=World.frozen?_alloc_old w o a (Nat.ne_of_lt hc)
theorem Kp.alloc(e:w.alloc o=w₁):Kp L w w₁:=by
 subst e;exact⟨by simp,fun a v _ _ hc=>(World.cell?_alloc_lt _ _ _ (aq hc)).trans hc,fun a v _ _ hc=>lE (aq hc),fun k c t f _ _ h=>(Below.heap_alloc _ _ _ (Array.getElem?_eq_some_iff.1 h).1).trans h⟩
theorem Kp.Jp(e:w.setCell p v=w₁):Kp [] w w₁ [p]:=by
 subst e;exact⟨by simp[World.setCell],fun a x _ hn hc=>(World.cell?_setCell_other _ _ _ _ (fun z=>hn (by simp[z]))).trans hc,fun a x _ _ _=>World.frozen?_setCell _ _ _ _,fun k c t f _ hn h=>by simp only[World.setCell,Array.getElem?_modify,hn p (by simp),if_false];exact h⟩
theorem Kp.uA(k:Kp L w w' C)(e:w'.alloc o=w₁):Kp L w w₁ C:=k.lG (Kp.alloc (L:=[]) e) (by simp) (by simp)
theorem Kp.rD(k:Kp L w w' C)(e:w'.setCell p v=w₁)(hL:p.block∈L∨p∈C∨w.heap.size≤p.block):Kp L w w₁ C:=
 k.lG (Kp.Jp e) (by simp) (by intro x hx;simp at hx;subst hx;rcases hL with z|z|z;exact .inr (.inl z);exact .inl z;exact .inr (.inr z))
theorem bH(h:w.cell? a=some v)(e:w.alloc o=w₁):w₁.cell? a=some v:=by subst e;exact(World.cell?_alloc_lt _ _ _ (aq h)).trans h
theorem ez(z:w.frozen? a=false)(h:w.cell? a=some v)(e:w.alloc o=w₁):w₁.frozen? a=false:=by subst e;exact(lE (aq h)).trans z
theorem jV(e:w.alloc o=w₁)(hn:w.heap.size=n):w₁.heap.size=n+1:=by subst e;subst hn;simp
theorem aI{c:Array Value}{t:TypeId}(e:w.alloc (.cells c t)=w₁)(hn:w.heap.size=n)(hv:c[i]? =some v):w₁.cell? ⟨n,i,none⟩=some v:=by subst e;subst hn;exact(World.cell?_alloc_new w c t i).trans hv
theorem aV{c:Array Value}{t:TypeId}(e:w.alloc (.cells c t)=w₁)(hn:w.heap.size=n)(i:Nat):w₁.frozen? ⟨n,i,none⟩=false:=by subst e;subst hn;exact World.frozen?_alloc_new w c t i
theorem oB(e:w.alloc o=w₁)(hn:w.heap.size=n):w₁.heap[n]? =some o:=by subst e;subst hn;show(w.heap.push o)[w.heap.size]? =_;simp
theorem aS(h:w.cell? a=some v)(e:w.setCell p v'=w₁)(aN:p≠a):w₁.cell? a=some v:=by subst e;exact(World.cell?_setCell_other _ _ _ _ aN).trans h
theorem dP(h:w.cell? a=some v)(e:w.setCell a v'=w₁):w₁.cell? a=some v':=by subst e;exact World.cell?_setCell_same _ _ _ h
theorem aK(z:w.frozen? a=false)(e:w.setCell p v'=w₁):w₁.frozen? a=false:=by subst e;rw[World.frozen?_setCell];exact z
theorem jA(e:w.setCell p v'=w₁):w₁.heap.size=w.heap.size:=by subst e;simp[World.setCell]
theorem lW(e:w.setCell p v'=w₁):w.heap.size≤w₁.heap.size∧w₁.heap.size≤w.heap.size:=by have:=jA e;omega
theorem g9(e:w.alloc o=w₁)(hn:w.heap.size=n):n<w₁.heap.size∧w₁.heap.size≤n+1:=by have:=jV e hn;omega
end
theorem DX.Jn{Ok:Addr→Bool→Prop}{es:Array Event}(d:Nat):∀(l:List (Addr×Value))(w:World),(∀x∈l,Ok x.1 true)→(∀e∈es,Fg Ok ((l.foldl (fun w x=>w.setCell x.1 x.2) w).at d) e)→DX Ok (w.at d) ((l.foldl (fun w x=>w.setCell x.1 x.2) w).at d) es
 |[],w,_,h=>DX.still d h
 |x::l,w,ok,h=>by
  have h2:=DX.Jn d l (w.setCell x.1 x.2) (fun y hy=>ok y (List.mem_cons_of_mem _ hy)) h;have h1:DX Ok (w.at d) ((w.setCell x.1 x.2).at d) #[]:=DX.set d (ok x (List.mem_cons_self ..)) (by simp)
  exact⟨h2.ev,Nat.le_trans h1.size h2.size,fun c o ho hn=>h2.obj c o (h1.obj c o ho hn) hn,fun a ha hl=>by
   have e1:=h1.cell a ha hl;have e2:=h2.cell a ha (Nat.lt_of_lt_of_le hl h1.size);exact⟨e2.1.trans e1.1,e2.2.trans e1.2⟩,fun k hk hn=>(h2.blk k (Nat.lt_of_lt_of_le hk h1.size) hn).trans (h1.blk k hk hn),h2.rest.1.trans h1.rest.1,h2.rest.2.1.trans h1.rest.2.1,h2.rest.2.2.trans h1.rest.2.2⟩
section
variable{Ok:Addr→Bool→Prop}{es:Array Event}{w:World}{a1 a2 a3 a4 a5:Addr}{v1 v2 v3 v4 v5:Value}
theorem DX.Qz(d:Nat)(o1:Ok a1 true)(o2:Ok a2 true)(h:∀e∈es,Fg Ok (((w.setCell a1 v1).setCell a2 v2).at d) e):DX Ok (w.at d) (((w.setCell a1 v1).setCell a2 v2).at d) es:=
 DX.Jn d [(a1,v1),(a2,v2)] w (by simp[o1,o2]) h
theorem DX.Vy(d:Nat)(o1:Ok a1 true)(o2:Ok a2 true)(o3:Ok a3 true)(h:∀e∈es,Fg Ok ((((w.setCell a1 v1).setCell a2 v2).setCell a3 v3).at d) e):DX Ok (w.at d) ((((w.setCell a1 v1).setCell a2 v2).setCell a3 v3).at d) es:=
 DX.Jn d [(a1,v1),(a2,v2),(a3,v3)] w (by simp[o1,o2,o3]) h
end
section
variable(P:Program)(w:World)(es:Array Event)(a:Addr)(m:Mode)
theorem dh(b:Option Addr)(n c:Nat):(store a (.slice b n c) m).events P w es=storedEv P w es a (.slice b n c) m:=events_store P w es a _ m rfl
theorem eM(b:Option Addr):(store a (.pointer b) m).events P w es=storedEv P w es a (.pointer b) m:=events_store P w es a _ m rfl
theorem dm(t:TypeId)(v:Value):(store a (.iface t v) m).events P w es=storedEv P w es a (.iface t v) m:=events_store P w es a _ m rfl
theorem fB:(store a .nilIface m).events P w es=storedEv P w es a .nilIface m:=events_store P w es a _ m rfl
theorem eB(b:Bool):(store a (.bool b) m).events P w es=storedEv P w es a (.bool b) m:=events_store P w es a _ m rfl
end
def bV(v:Value):List Nat:=match v.ownBlock with|some g=>[g]|none=>[]
theorem br{v:Value}{g:Nat}:g∈bV v↔v.ownBlock=some g:=by
 unfold bV;cases v.ownBlock with
 |none=>simp
 |some x=>simp[eq_comm]
theorem Kp.grown{w w':World}{v:Value}(h:w.grownBy w' v.ownBlock):Kp (bV v) w w':=by
 have hb:∀(a:Addr)(x:Value),a.block∉bV v→w.cell? a=some x→w'.heap[a.block]? =w.heap[a.block]? :=fun a x hn hc=>h.block _ (aq hc) fun z=>hn (br.2 z.symm)
 exact⟨h.size,fun a x hn _ hc=>(World.cell?_of_block (hb a x hn hc)).trans hc,fun a x hn _ hc=>World.frozen?_of_block (hb a x hn hc),fun k c t f hn _ ho=>(h.block k (Array.getElem?_eq_some_iff.1 ho).1 fun z=>hn (br.2 z.symm)).trans ho⟩
theorem aC.append{P:Program}{main:Bool}{Ok:Addr→Bool→Prop}{Ψ:Goroutine→World→Prop}{b:Frame}{a:Act}{k:List Item}{cs:List Frame}{w:World}(F:aC P main (DX Ok) Ψ){ops:Array Oper}{i:Nat}{rest:List Nat}{o:Oper}(ho:ops[i]? =some o)(hw:Region.wanted o (yielded ops a.tmps)=true)(hk:b.kind≠.early)(s x:Operand)(t e:TypeId)(aQ:o.op=.call {callee:=.builtin .append,args:=#[s,x],argTypes:=#[t,t]})(inf:TypeInfo)(z:Value)(base size bytes:Nat)(ht:P.underlying t=some (.slice e))(hi:P.info? e=some inf)(hz:inf.zero=some z)(vu:inf.size=size)(UN:inf.bytes=bytes)(VS:z.cells.size=size)(cU:0<size){v:Value}{n nb:Nat}{xs news:List Value}(hs:a.eval s=v)(hx:a.eval x=.slice (some ⟨nb,0,none⟩) 1 1)(rL:w.ownsRow base e size v n xs)(hl:news.length=size)(gz:∀j u,news[j]? =some u→w.cell? ⟨nb,j,none⟩=some u)(h1:∀u∈news,u.oneCell'=true)(IF:n+1≤maxLen)(mw:(n+1)*bytes≤140737488355328)(SG:base≤w.heap.size)(gS:nb<w.heap.size)(ko:∀(ad:Addr)(wr:Bool),some ad.block=v.ownBlock→Ok ad wr)(rG:∀ad:Addr,ad.block=nb→Ok ad false)(h:∀v' w',w'.ownsRow base e size v' (n+1) (xs++news)→w.grownBy w' v.ownBlock→(v'.ownBlock=v.ownBlock∨v'.ownBlock=some w.heap.size)→Ψ (G (b.at (a.put o.dst v') (.inRegion ops rest::k)) cs) w'):
 Ψ (G (b.at a (.inRegion ops (i::rest)::k)) cs) w:=by
 refine F.Pw ho hw hk fun d K hK=>?_
 have LQ:(w.at d).ownsRow base e size v n xs:=rL;have G2:∀j u,news[j]? =some u→(w.at d).cell? ((⟨nb,0,none⟩:Addr).add j)=some u:=fun j u hj=>by rw[Addr.add_lit,Nat.zero_add];exact gz j u hj
 obtain⟨v',w',hr,eF,hg,_,hb⟩:=run_append_own_at (P:=P) (w:=w.at d) base t o.type e inf z size bytes ht hi hz vu UN VS cU v n xs LQ ⟨nb,0,none⟩ 1 1 news (by simpa using hl) G2 h1 IF mw SG
 have VZ:∀g,v.ownBlock=some g→g<w.heap.size:=fun g PM=>by
  rcases rL.2 with ⟨rfl,_⟩|⟨g',cap,cur,rfl,_,hh,_⟩
  ·cases PM
  ·simp[Value.ownBlock] at PM
   subst PM;exact(Array.getElem?_eq_some_iff.1 hh).1
 refine uponK_append s x t aQ hs hx hr (hK _ w' ⟨⟨fun ev dS=>?_,hg.size,fun c ob EW hn=>?_,fun ad qy aT=>?_,fun kk cB RY=>hg.block kk cB (fun z=>RY ⟨kk,0,none⟩ rfl (ko _ _ z)),hg.os,hg.tape,hg.output⟩,h v' w' eF ⟨hg.os,hg.tape,hg.output,hg.size,hg.block⟩ hb⟩)
 ·have hm:=mem_listed dS
  rw[events_append_op s x t aQ hs hx] at hm;rcases events_append_where (P:=P) (w.at d) base t o.type e inf z size bytes ht hi hz vu UN v n xs LQ ⟨nb,0,none⟩ 1 1 news (by simpa using hl) G2 h1 IF mw ev hm with ⟨ad,e1,⟨e2,e3⟩|e2⟩|⟨m,e1,e2⟩
  ·exact .inl ⟨ad,e1,rfl,by rw[e2];exact rG ad e3,by rw[e3];exact Nat.lt_of_lt_of_le gS hg.size⟩
  ·exact .inl ⟨ad,e1,rfl,ko ad _ e2,Nat.lt_of_lt_of_le (VZ _ e2.symm) hg.size⟩
  ·exact .inr (by rw[e1,show m=.noRoom from e2];rfl)
 ·have aT:c<w.heap.size:=(Array.getElem?_eq_some_iff.1 EW).1
  have aN:some c≠v.ownBlock:=fun z=>by
   rcases rL.2 with ⟨rfl,_⟩|⟨g',cap,cur,rfl,_,hh,_⟩
   ·cases z
   ·simp[Value.ownBlock] at z
    subst z;have:w.heap[c]? =some ob:=EW;rw[hh] at this;exact hn _ _ _ (Option.some.inj this).symm
  exact(hg.block c aT aN).trans EW
 ·have aN:some ad.block≠v.ownBlock:=fun z=>qy (ko ad true z)
  have:=hg.block _ aT aN;exact⟨World.cell?_of_block this,World.frozen?_of_block this⟩
def fZ(b:Bool)(x y:Value):Value:=match b with|true=>x|false=>y
def tick(b:Nat→Bool)(i:Nat):Nat→Bool:=fun j=>if j=i then true else b j
theorem all_cons{p:Nat→Prop}{n k:Nat}(h:p k)(hs:∀i,k+1≤i→i<n→p i):∀i,k≤i→i<n→p i:=fun i h1 h2=>by
 rcases Nat.lt_or_ge k i with z|z
 ·exact hs i z h2
 ·have:i=k:=Nat.le_antisymm z h1
  subst this;exact h
theorem all_nil{p:Nat→Prop}{n:Nat}:∀i,n≤i→i<n→p i:=fun i h1 h2=>absurd h2 (Nat.not_lt.2 h1)
def Bh(ops:Array Oper)(Dp:List (List Nat)):Bool:=
 (List.range ops.size).all fun i=>match ops[i]? with
   |some o=>o.after.toList.all (fun e=>!Region.binds .any e||decide (e.on<i))&&(Dp.getD i []).all (fun j=>o.after.toList.any fun e=>decide (e.on=j)&&Region.binds .any e)
   |none=>false
theorem aC.Ts{P:Program}{main:Bool}{D:World→World→Array Event→Prop}{Ψ:Goroutine→World→Prop}{fr:Frame}{k:List Item}{cs:List Frame}{ops:Array Oper}{id:Nat}{a:Act}{w:World}(F:aC P main D Ψ)(hm:P.follows .mixedOrders=true){n:Nat}(Dp:List (List Nat))(hn:ops.size=n)(hD:Bh ops Dp=true)(I:(Nat→Bool)→Act→World→Prop)(h0:I (fun _=>false) a w)(eK:∀i,0≤i→i<n→∀(b:Nat→Bool)(a:Act)(w:World),I b a w→(∀x,x<n→b x=true→∀j∈Dp.getD x [],b j=true)→b i=false→(∀j∈Dp.getD i [],b j=true)→∀rest,((∀x,x<n→x≠i→b x=true)→rest=[])→
 (∀a' w',I (tick b i) a' w'→Ψ (G (fr.at a' (.inRegion ops rest::k)) cs) w')→Ψ (G (fr.at a (.inRegion ops (i::rest)::k)) cs) w)(gJ:∀b a w,I b a w→(∀i,i<n→b i=true)→Ψ (G (fr.at a (.inRegion ops []::k)) cs) w):
 Ψ (G (fr.at a (.code (.region id ops true)::k)) cs) w:=by
 subst hn
 have aB:∀i o,ops[i]? =some o→(∀e∈o.after,Region.binds .any e=true→e.on<i)∧∀j∈Dp.getD i [],∃e∈o.after,e.on=j∧Region.binds .any e=true:=by
  intro i o ho;have hi:i<ops.size:=(Array.getElem?_eq_some_iff.1 ho).1;have:=List.all_eq_true.1 hD i (List.mem_range.2 hi);rw[ho] at this;simp only[Bool.and_eq_true,decide_eq_true_eq,List.all_eq_true,List.any_eq_true,Array.mem_toList_iff] at this;exact⟨fun e he hb=>(by have:=this.1 e he;simpa [hb] using this),this.2⟩
 let m:Array Bool→Nat→Bool:=fun l j=>l.getD j false
 refine F.draw hm (fun l a w=>l.size=ops.size∧I (m l) a w∧∀x,x<ops.size→m l x=true→∀j∈Dp.getD x [],m l j=true) (fun i o ho=>(aB i o ho).1) (fun l a w h=>h.1) ⟨by simp,?_,fun x hx h=>?_⟩ (fun l a w i o hI ho hl hd rest iI hk=>?_) (fun l a w hI hf=>?_)
 ·have:m (Array.replicate ops.size false)=fun _=>false:=by
   funext j
   simp only[m,Array.getD]
   split<;>simp
  rw[this];exact h0
 ·have:m (Array.replicate ops.size false) x=false:=by
   simp only[m,Array.getD]
   split<;>simp
  rw[this] at h;cases h
 ·have hi:i<ops.size:=(Array.getElem?_eq_some_iff.1 ho).1
  have dI:i<l.size:=by rw[hI.1];exact hi
  have R6:m (l.setIfInBounds i true)=tick (m l) i:=by
   funext j
   simp only[m,tick,Array.getD,Array.size_setIfInBounds]
   by_cases hj:j=i
   ·subst hj;simp[dI]
   ·by_cases LY:j<l.size
    ·simp[LY,hj,Array.getElem_setIfInBounds]
     exact fun z=>absurd z.symm hj
    ·simp[LY,hj]
  have hb:m l i=false:=by
   simp only[m,Array.getD,dI,dif_pos] at hl ⊢;exact hl
  have gV:∀j∈Dp.getD i [],m l j=true:=fun j hj=>by
   obtain⟨e,he,rfl,rO⟩:=(aB i o ho).2 j hj;exact hd e he rO
  refine eK i (Nat.zero_le _) hi (m l) a w hI.2.1 hI.2.2 hb gV rest (fun h=>iI fun j hj AQ=>by
   have:=h j hj AQ;have LY:j<l.size:=by rw[hI.1];exact hj
   simp only[m,Array.getD,LY,dif_pos] at this ⊢;exact this) fun a' w' jU=>hk a' w' ⟨by simp[hI.1],by rw[R6];exact jU,?_⟩
  rw[R6];intro x hx h j hj
  by_cases PC:x=i
  ·subst PC
   by_cases AQ:j=x
   ·simp[tick,AQ]
   ·have:=gV j hj
    simp[tick,this]
  ·have h':m l x=true:=by simpa [tick,PC] using h
   have:=hI.2.2 x hx h' j hj;simp[tick,this]
 ·refine gJ (m l) a w hI.2.1 fun i hi=>?_
  have:=hf i hi;have dI:i<l.size:=by rw[hI.1];exact hi
  simp only[m,Array.getD,dI,dif_pos] at this ⊢;exact this
def uK(a:Act)(l:List (Nat×Value)):Act:=⟨l.foldl (fun t x=>t.setIfInBounds x.1 x.2) a.tmps,a.defers⟩
theorem pu:(∀(a:Act)(l:List (Nat×Value)),uK a l=⟨l.foldl (fun t x=>t.setIfInBounds x.1 x.2) a.tmps,a.defers⟩)∧
 (∀(f:Array Value→Nat×Value→Array Value)(t:Array Value),[].foldl f t=t)∧(∀(f:Array Value→Nat×Value→Array Value)(t:Array Value)(x:Nat×Value)(l:List (Nat×Value)),(x::l).foldl f t=l.foldl f (f t x))∧
 (∀(b:Nat→Bool)(i j:Nat),tick b i j=if j=i then true else b j)∧(∀n:Nat,0+n=n)∧(∀x y:Value,fZ true x y=x)∧(∀x y:Value,fZ false x y=y)∧
 (∀(l:List Value)(i:Nat)(v:Value),l.toArray.setIfInBounds i v=(l.set i v).toArray)∧(∀(x:Value)(l:List Value)(i:Nat)(v:Value),(x::l).set (i+1) v=x::l.set i v)∧(∀(x:Value)(l:List Value)(v:Value),(x::l).set 0 v=v::l)∧
 ((0=1)=False)∧((1=0)=False):=
 ⟨fun _ _=>rfl,fun _ _=>rfl,fun _ _ _ _=>rfl,fun _ _ _=>rfl,Nat.zero_add,fun _ _=>rfl,fun _ _=>rfl,fun _ _ _=>by simp,fun _ _ _ _=>rfl,fun _ _ _=>rfl,by simp,by simp⟩
theorem aC.Tu{P:Program}{main:Bool}{D:World→World→Array Event→Prop}{Ψ:Goroutine→World→Prop}{fr:Frame}{k:List Item}{cs:List Frame}{ops:Array Oper}{id:Nat}{a:Act}{w:World}{γ:Type}(F:aC P main D Ψ)(hm:P.follows .mixedOrders=true){n:Nat}(Dp:List (List Nat))(hn:ops.size=n)(hD:Bh ops Dp=true)(sN:(Nat→Bool)→γ→List (Nat×Value))(J:(Nat→Bool)→γ→World→Prop)(g0:γ)(h0:uK a (sN (fun _=>false) g0)=a)(hJ:J (fun _=>false) g0 w)(eK:∀i,0≤i→i<n→∀(b:Nat→Bool)(g:γ)(w:World),J b g w→(∀x,x<n→b x=true→∀j∈Dp.getD x [],b j=true)→b i=false→(∀j∈Dp.getD i [],b j=true)→∀rest,((∀x,x<n→x≠i→b x=true)→rest=[])→
 (∀g' w',J (tick b i) g' w'→Ψ (G (fr.at (uK a (sN (tick b i) g')) (.inRegion ops rest::k)) cs) w')→Ψ (G (fr.at (uK a (sN b g)) (.inRegion ops (i::rest)::k)) cs) w)(gJ:∀b g w,J b g w→(∀i,i<n→b i=true)→Ψ (G (fr.at (uK a (sN b g)) (.inRegion ops []::k)) cs) w):
 Ψ (G (fr.at a (.code (.region id ops true)::k)) cs) w:=by
 refine F.Ts hm Dp hn hD (fun b a' w=>∃g,a'=uK a (sN b g)∧J b g w) ⟨g0,h0.symm,hJ⟩ (fun i h1 h2 b a' w hI bp hb hd rest iI hk=>?_) (fun b a' w hI aB=>?_)
 ·obtain⟨g,rfl,hJ⟩:=hI
  exact eK i h1 h2 b g w hJ bp hb hd rest iI fun g' w' hJ'=>hk _ _ ⟨g',rfl,hJ'⟩
 ·obtain⟨g,rfl,hJ⟩:=hI
  exact gJ b g w hJ aB
theorem aC.zq{P:Program}{main:Bool}{D:World→World→Array Event→Prop}{Ψ:Goroutine→World→Prop}{fr:Frame}{k:List Item}{cs:List Frame}{ops:Array Oper}{id:Nat}{a:Act}{w:World}{γ:Type}(F:aC P main D Ψ)(hm:P.follows .mixedOrders=true){n:Nat}(Dp:List (List Nat))(hn:ops.size=n)(hD:Bh ops Dp=true)(sN:(Nat→Bool)→γ→List (Nat×Value))(J:(Nat→Bool)→γ→World→Prop)(g0:γ)(h0:uK a (sN (fun _=>false) g0)=a)(hJ:J (fun _=>false) g0 w)(eK:∀i,0≤i→i<n→∀(b:Nat→Bool)(g:γ)(w:World),J b g w→(∀x j,(decide (x<n)&&(Dp.getD x []).contains j)=true→b x=true→b j=true)→b i=false→(∀j,(Dp.getD i []).contains j=true→b j=true)→∀rest,((∀x,x<n→x≠i→b x=true)→rest=[])→
 (∀g' w',J (tick b i) g' w'→Ψ (G (fr.at (uK a (sN (tick b i) g')) (.inRegion ops rest::k)) cs) w')→Ψ (G (fr.at (uK a (sN b g)) (.inRegion ops (i::rest)::k)) cs) w)(gJ:∀b g w,J b g w→(∀i,i<n→b i=true)→Ψ (G (fr.at (uK a (sN b g)) (.inRegion ops []::k)) cs) w):
 Ψ (G (fr.at a (.code (.region id ops true)::k)) cs) w:=
 F.Tu hm Dp hn hD sN J g0 h0 hJ (fun i h1 h2 b g w hI bp aA cG=>eK i h1 h2 b g w hI (fun x j hx hb=>by
  simp only[Bool.and_eq_true,decide_eq_true_eq,List.contains_iff_mem] at hx;exact bp x hx.1 hb j hx.2) aA (fun j hj=>cG j (by simpa using hj))) gJ
end
section
open Go.Conc Go.RowKit
variable{main:Bool}{Ok:Addr→Bool→Prop}
theorem c9:prog.underlying 100=some (.slice 128):=by kernel_rfl
theorem vg:prog.underlying 44=some (.slice 48):=by kernel_rfl
theorem kU:∃inf z,prog.info? 128=some inf∧inf.zero=some z∧inf.size=2∧inf.bytes=16∧z.cells.size=2:=⟨_,_,rfl,rfl,rfl,rfl,rfl⟩
end
section
open Go.Conc Go.RowKit
variable{main:Bool}{Ok:Addr→Bool→Prop}
end
end Go.Proofs.YtobagnjnbmgidaaGreatDoor
