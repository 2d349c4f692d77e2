import Derived.Test.YtobagnjnbmgidaaGreatDoorE14
set_option linter.all false
set_option maxHeartbeats 2000000
set_option maxRecDepth 100000
namespace Go.Proofs.YtobagnjnbmgidaaGreatDoor
open Go.Conc Go.RowKit
def me(P:Program)(r:Rec):Bool:=match cY P (execOp (ev r.E) r.o) with
 |some (.value _)=>r.o.guard.isNone
 |_=>false
def X0(hs:List Hint)(Z:List ah):cT:=⟨[],⟨hs,Z,0,[],[]⟩,[],[],[]⟩
def s9(x:cT):Bool:=x.dB.isEmpty&&x.fI.isEmpty&&x.m.aZ.isEmpty
def Late(P:Program)(ops:Array Oper)(Z:List ah)(r:Rec):Prop:=∃hs y,xU P 0 ops r.E r.o (X0 hs (ro Z))=some (r.v,y)∧oS y∧y.m.c=0
section
variable{P:Program}{main:Bool}{B:Nat}{Ok:Addr→Bool→Prop}{Ψ:Goroutine→World→Prop}
theorem M8{α:Type}{B':Nat}:∀(s:Sem α)(y:α)(m:mJ),cY P s=some y→dK P B' s m=some (y,m):=by
 intro s
 induction s with
 |pure a=>intro y m h;simp[cY] at h;subst h;rfl
 |program k ih=>intro y m h;exact ih _ _ _ h
 |_=>intros;simp_all [cY]
theorem vp{ops:Array Oper}{E:Env}{o:Oper}{x y:cT}{v v':Value}(h:xU P B ops E o x=some (v,y))(hm:oS y)(hg:o.guard=none)(hq:cY P (execOp (ev E) o)=some (.value v')):v=v'∧mo o=false∧o.op.operands.all (kn E)=true:=by
 unfold xU at h;rw[hg] at h;simp only at h;obtain⟨hc,h⟩:=az h;simp only[Bool.and_eq_true,Bool.not_eq_true'] at hc;refine⟨?_,hc.1,hc.2⟩;rw[M8 (B':=B) _ _ _ hq] at h;cases oN:uN o with
 |true=>
  rw[oN] at h;simp only[cond_true] at h
  split at h
  ·cases h;rfl
  ·split at h
   ·rename_i v2 i n hx
    cases h
    have hi:=hm.fI (i,n) (by simp);have:=Aw hx hi.1 hi.2;rw[hq] at this;cases this;rfl
   ·cases h
  ·cases h
 |false=>rw[oN] at h;simp only[cond_false] at h;cases h;rfl
structure Ym(ops:Array Oper)(bm:Array Nat)(q N:Nat)(ds:List Deferred)(E0:Env)(ay:List Rec)(dq:Option Nat)(v:Value)(l:Array Bool)(a':Act):Prop where
 size:l.size=ops.size
 late:∀j,q<j→j<ops.size→l.getD j true=false
 down:∀i j,l.getD i false=true→i<ops.size→j<ops.size→iB bm i j=true→l.getD j false=true
 base:l.getD q false=true
 sz:a'.tmps.size=N
 Bf:a'.defers=ds
 val:∀r∈ay,l.getD r.i false=true→∀d,r.o.dst=some d→a'.tmps[d]? =some r.v
 old:∀d u,look E0 d=some u→a'.tmps[d]? =some u
 own:∀d,dq=some d→a'.tmps[d]? =some v
theorem Tv(F:aC P main (DX Ok) Ψ)(hB:HB B Ok){Z:List ah}{b:Frame}(hk:b.kind≠.early){cs:List Frame}{ops:Array Oper}{bm:Array Nat}{q N:Nat}{ds:List Deferred}{E0:Env}{M0:List ah}{c0:Nat}{ay:List Rec}{al:Option (Nat×ah)}{xf:cT}{k:List Item}{dq:Option Nat}{v:Value}{w:World}(Cj:q<ops.size)(hp:qN ops bm (q+1))(nE:iN ops (q+1)=true)(Ke:dq=(ops[q]?).bind (·.dst))(hN:∀d∈dstsOf ops (q+1),d<N)(qz:∀d u,look E0 d=some u→d∉dstsOf ops (q+1))(hM:oS xf)(hu:∀r∈ay,∀s∈ay,r.i=s.i→r=s)(eE:∀r∈ay,r.i<q∧Spec P B ops bm E0 M0 c0 ay al xf r)(kZ:∀i,i<q→∃r∈ay,r.i=i)(oz:∀r∈ay,iB bm q r.i=true∨me P r=true∨Late P ops Z r)(ux:Sat Ok w Z)(ey:B≤w.heap.size)(K:∀l a' w',Ym ops bm q N ds E0 ay dq v l a'→(∀i,i<q→l.getD i false=true)→Fr (fun _=>False) w w'→w'.heap.size=w.heap.size→Ψ (G (b.at a' (.inRegion ops (bM (q+1) (ops.size-(q+1)))::k)) cs) w'):
 ∀(fuel t:Nat)(l:Array Bool)(a:Act)(w1:World),Fr (fun _=>False) w w1→w1.heap.size=w.heap.size→Ym ops bm q N ds E0 ay dq v l a→(∃m,m+fuel=ops.size∧(l.toList.filter id).length=m)→Ψ (G (b.at a (.inRegion ops (Region.linearise.go .any ops fuel t l [])::k)) cs) w1:=by
 intro fuel
 induction fuel with
 |zero=>
  intro t l a w1 gX ck hI ⟨m,hm,hc⟩
  have aB:∀i,i<ops.size→l.getD i true=true:=fun i hi=>by
   have Ef:l.toList.length=ops.size:=by rw[Array.length_toList];exact hI.size
   have jl:(l.toList.filter id).length=l.toList.length:=by omega
   have:=List.length_filter_eq_length_iff.1 jl;have dJ:i<l.size:=by rw[hI.size];exact hi
   have h3:=this l[i] (by simp);simp only[Array.getD,dJ,dif_pos]
   simpa using h3
  have hq:q+1=ops.size:=by
   rcases Nat.lt_or_ge (q+1) ops.size with z|z
   ·have h1:=aB (q+1) z;rw[hI.late (q+1) (by omega) z] at h1;cases h1
   ·exact Nat.le_antisymm hp.le z
  have:=K l a w1 hI (fun i hi=>by rw[aR (by rw[hI.size];omega) false true];exact aB i (by omega)) gX ck;rw[fH hp 0 (q+1) t 0 l (Nat.le_refl _) (by omega) (Nat.le_refl _) hI.size (fun j hj=>aB j (by omega)) (fun j h1 h2=>hI.late j h1 h2)];have e:ops.size-(q+1)=0:=by omega
  rw[e] at this;exact this
 |succ fuel ih=>
  intro t l a w1 gX ck hI ⟨m,hm,hc⟩
  by_cases aB:∀i,i<q→l.getD i false=true
  ·have hle:m≤q+1:=by
    rw[←hc];refine count_le _ (q+1) fun j hj=>?_
    rcases Nat.lt_or_ge j ops.size with z|z
    ·left
     have:=hI.late j hj z;rw[Array.getD_eq_getD_getElem?] at this;rw[List.getD_eq_getElem?_getD];simpa using this
    ·right;simp[hI.size];exact z
   rw[fH hp (ops.size-(q+1)) (q+1) t (fuel+1) l (Nat.le_refl _) (by omega) (by omega) hI.size (fun j hj=>by
    rw[aR (by rw[hI.size];omega) true false];rcases Nat.lt_or_ge j q with z|z
    ·exact aB j z
    ·have:j=q:=by omega
     rw[this];exact hI.base) (fun j h1 h2=>hI.late j h1 h2)]
   exact K l a w1 hI aB gX ck
  ·simp only[Region.linearise.go]
   generalize kY:((List.range ops.size).filter fun i=>!l.getD i true&&((ops[i]?).map (·.after.all fun e=>!Region.binds .any e||l.getD e.on false)).getD false)=rs;have jg:(List.range ops.size).filter (ready ops l)=rs:=kY;cases hi:rs[t % rs.length]? with
   |none=>
    exfalso
    have ji:rs=[]:=by
     cases rs with
     |nil=>rfl
     |cons x xs=>
      have aT:t % (x::xs).length<(x::xs).length:=Nat.mod_lt _ (by simp);rw[List.getElem?_eq_getElem aT] at hi;cases hi
    rw[ji] at jg
    apply aB
    intro i
    induction i using Nat.strongRecOn with
    |_ i GN=>
     intro jD;have gC:i<ops.size:=by omega
     have dI:i<l.size:=by rw[hI.size];exact gC
     cases hz:l.getD i false with
     |true=>rfl
     |false=>
      exfalso
      have:ready ops l i=true:=(cZ gC).2 ⟨by rw[aR dI true false];exact hz,fun e he hb=>by
       have gI:=hp.low i _ (Array.getElem?_eq_getElem gC) e he hb;exact GN e.on gI (by omega)⟩
      have bY:i∈(List.range ops.size).filter (ready ops l):=List.mem_filter.2 ⟨List.mem_range.2 gC,this⟩;rw[jg] at bY;cases bY
   |some i=>
    have bY:i∈rs:=List.mem_of_getElem? hi;rw[←jg] at bY;obtain⟨hr,hf⟩:=List.mem_filter.1 bY;have aT:i<ops.size:=List.mem_range.1 hr;obtain⟨f1,f2⟩:=(cZ aT).1 hf;have dI:i<l.size:=by rw[hI.size];exact aT
    have jD:i<q:=by
     rcases Nat.lt_trichotomy i q with z|z|z
     ·exact z
     ·exfalso;subst z
      have:=hI.base;rw[aR dI false true,f1] at this;cases this
     ·exfalso;apply aB
      intro j hj;obtain⟨_,e,he,hb,hd⟩:=hp.EM i _ j (Array.getElem?_eq_getElem aT) (by omega) (hp.chain i z aT j (by omega));have gY:=f2 e he hb;rcases hd with rfl|hd
      ·exact gY
      ·have gI:=hp.low i _ (Array.getElem?_eq_getElem aT) e he hb
       exact hI.down e.on j gY (by omega) (by omega) hd
    simp only
    rw[linearise_go_acc,List.reverse_singleton,List.singleton_append];obtain⟨r,wT,rfl⟩:=kZ i jD;obtain⟨_,hs⟩:=eE r wT;have ny:ops[r.i]=r.o:=Option.some.inj ((Array.getElem?_eq_getElem aT).symm.trans hs.op)
    have bZ:∀j,j<ops.size→iB bm r.i j=true→l.getD j false=true:=fun j hj hb=>by
     obtain⟨_,e,he,h1,h2⟩:=hp.EM r.i r.o j hs.op hj hb;have hd:=f2 e (by rw[ny];exact he) h1;rcases h2 with rfl|h2
     ·exact hd
     ·have gI:=hp.low r.i r.o hs.op e he h1
      exact hI.down e.on j hd (by omega) hj h2
    have hA:aO r.E N a:=⟨hI.sz,fun d u hl=>by
     rcases hs.env d u hl with ⟨s,s1,s2,s3,s4⟩|z
     ·rw[←s4];exact hI.val s s1 (bZ s.i (by have:=(eE s s1).1;omega) s2) d s3
     ·exact hI.old d u z⟩
    have wV:iB bm q r.i=false:=by
     cases hz:iB bm q r.i with
     |false=>rfl
     |true=>
      have:=hI.down q r.i hI.base Cj aT hz;rw[aR dI false true,f1] at this;cases this
    have iE:∀s∈ay,∀d,s.o.dst=some d→d∈dstsOf ops (q+1):=fun s fJ d hd=>by
     obtain⟨h1,h2⟩:=eE s fJ;exact List.mem_filterMap.2 ⟨s.i,List.mem_range.2 (by omega),by rw[h2.op];exact hd⟩
    have Ki:∀i j d,i<q+1→j<q+1→(ops[i]?).bind (·.dst)=some d→(ops[j]?).bind (·.dst)=some d→i=j:=fun i j d h1 h2 h3 h4=>by
     have:=List.all_eq_true.1 (List.all_eq_true.1 nE i (List.mem_range.2 h1)) j (List.mem_range.2 h2);rw[h3,h4] at this
     simpa using this
    have step:∀w2,Fr (fun _=>False) w1 w2→w2.heap.size=w1.heap.size→Ψ (G (b.at (a.put r.o.dst r.v) (.inRegion ops (Region.linearise.go .any ops fuel (t / rs.length) (l.setIfInBounds r.i true) [])::k)) cs) w2:=fun w2 mZ dV=>by
     refine ih _ _ _ w2 (gX.trans mZ (fun _ z=>z.elim)) (dV.trans ck) ⟨by simp[hI.size],fun j h1 h2=>?_,fun i j h1 h2 h3 h4=>?_,?_,?_,by rw[put_defers];exact hI.Bf,fun s fJ hd dd gV=>?_,fun dd u hl=>?_,fun dd gV=>?_⟩ ⟨m+1,by omega,?_⟩
     ·rw[aM _ dI,if_neg (by omega)];exact hI.late j h1 h2
     ·rw[aM _ dI] at h1 ⊢
      by_cases e:j=r.i
      ·rw[if_pos e]
      ·rw[if_neg e]
       by_cases e':i=r.i
       ·subst e';exact bZ j h3 h4
       ·rw[if_neg e'] at h1;exact hI.down i j h1 h2 h3 h4
     ·rw[aM _ dI];split
      ·rfl
      ·exact hI.base
     ·cases hd:r.o.dst<;>simp[Act.put]<;>exact hI.sz
     ·by_cases e:s.i=r.i
      ·have:=hu s fJ r wT e;subst this
       rw[gV];simp only[Act.put];rw[Array.getElem?_setIfInBounds_self,if_pos (by rw[hI.sz];exact hN dd (iE _ wT dd gV))]
      ·rw[aM _ dI,if_neg e] at hd
       have h0:=hI.val s fJ hd dd gV;cases nA:r.o.dst with
       |none=>exact h0
       |some d'=>
        have aN:d'≠dd:=fun z=>e (Ki s.i r.i dd (by have:=(eE s fJ).1;omega) (by omega) (by rw[(eE s fJ).2.op];exact gV) (by rw[hs.op,←z];exact nA))
        simp only[Act.put];rw[Array.getElem?_setIfInBounds_ne aN];exact h0
     ·have h0:=hI.old dd u hl
      cases nA:r.o.dst with
      |none=>exact h0
      |some d'=>
       have aN:d'≠dd:=fun z=>qz dd u hl (by rw[←z];exact iE _ wT d' nA)
       simp only[Act.put];rw[Array.getElem?_setIfInBounds_ne aN];exact h0
     ·have h0:=hI.own dd gV
      cases nA:r.o.dst with
      |none=>exact h0
      |some d'=>
       have aN:d'≠dd:=fun z=>by
        have:=Ki r.i q dd (by omega) (by omega) (by rw[hs.op,←z];exact nA) (by rw[←Ke];exact gV);omega
       simp only[Act.put];rw[Array.getElem?_setIfInBounds_ne aN];exact h0
     ·have h0:l[r.i]=false:=by have:=f1;simpa [Array.getD,dI] using this
      rw[Array.toList_setIfInBounds];exact hc▸bB l.toList r.i dI h0
    rcases(oz r wT).resolve_left (by rw[wV];decide) with GZ|⟨pY,y2,r1,r2,r3⟩
    ·unfold me at GZ
     split at GZ
     ·rename_i v' Az
      have e2:r.o.guard=none:=by
       cases AU:r.o.guard with
       |none=>rfl
       |some p=>rw[AU] at GZ;cases GZ
      obtain⟨e1,e3,e4⟩:=vp hs.run (hs.sub.met hM) e2 Az;subst e1;have cw:execOp a.eval r.o=execOp (ev r.E) r.o:=execOp_congr e3 fun y hy=>hA.eval (Array.all_eq_true_iff_forall_mem.1 e4 y hy)
      have dQ:=fG _ _ Az;refine F.op hs.op (by simp[Region.wanted,e2]) hk fun d K' hK=>?_
      have z2:(execOp a.eval r.o).run P (w1.at d)=.ok (.value r.v) (w1.at d):=by rw[cw,←Sem.runT_fst (es:=#[]),dQ]
      have z3:raw P a r.o (w1.at d)=#[]:=by unfold raw Sem.events;rw[cw,dQ]
      rw[z2];exact hK _ w1 ⟨by rw[z3];exact DX.still d (by simp),step w1 (Fr.refl _ _) rfl⟩
     ·cases GZ
    ·refine tC (B:=w1.heap.size) F (fun ad wr z=>hB ad wr (by omega)) hk hs.op (BN r1 (by rw[r3];rfl) _) r2 hA ⟨(ux.keep gX).ro,rfl⟩ fun w2 q1 q2 q3=>step w2 (q2.zT fun ad z=>uk z) ?_
     have:=q1.sz;omega
end
def D7(M0:List ah):Option (Nat×ah)→List ah
 |some (_,R)=>R::M0
 |none=>M0
def zu(c0:Nat):Option (Nat×ah)→Nat
 |some _=>c0+1
 |none=>c0
def Uw(bm:Array Nat)(q:Nat):Option (Nat×ah)→Bool
 |some (p,_)=>iB bm q p
 |none=>true
section
variable{P:Program}{main:Bool}{B:Nat}{Ok:Addr→Bool→Prop}{Ψ:Goroutine→World→Prop}
theorem Tw(F:aC P main (DX Ok) Ψ)(hB:HB B Ok){b:Frame}(hk:b.kind≠.early){cs:List Frame}{ops:Array Oper}{bm:Array Nat}{q N:Nat}{ds:List Deferred}{E0:Env}{M0:List ah}{c0:Nat}{ay:List Rec}{al:Option (Nat×ah)}{xf:cT}{w:World}{k:List Item}{o:Oper}(ho:ops[q]? =some o)(hp:qN ops bm (q+1))(nE:iN ops (q+1)=true)(hN:∀d∈dstsOf ops (q+1),d<N)(qz:∀d u,look E0 d=some u→d∉dstsOf ops (q+1))(hM:oS xf)(hu:∀r∈ay,∀s∈ay,r.i=s.i→r=s)(eE:∀r∈ay,r.i<q∧Spec P B ops bm E0 M0 c0 ay al xf r)(mz:∀p R,al=some (p,R)→p<q)(kZ:∀i,i<q→∃r∈ay,r.i=i){Z:List ah}(oz:∀r∈ay,iB bm q r.i=true∨me P r=true∨Late P ops Z r)(gC:Uw bm q al=true){Post:Value→World→Prop}(ux:∀v w2,Post v w2→Sat Ok w2 Z∧B≤w2.heap.size)(U:∀a1 w1 rest,aO (iS bm q ay++E0) N a1→Sat Ok w1 (D7 M0 al)→w1.heap.size=B+zu c0 al→(∀v w2,Post v w2→Ψ (G (b.at (a1.put o.dst v) (.inRegion ops rest::k)) cs) w2)→Ψ (G (b.at a1 (.inRegion ops (q::rest)::k)) cs) w1)(K:∀v w2 l a' w3,Post v w2→Ym ops bm q N ds E0 ay o.dst v l a'→(∀i,i<q→l.getD i false=true)→Fr (fun _=>False) w2 w3→w3.heap.size=w2.heap.size→Ψ (G (b.at a' (.inRegion ops (bM (q+1) (ops.size-(q+1)))::k)) cs) w3):
 ∀(fuel t:Nat)(l:Array Bool)(a:Act)(w1:World),IK Ok B ops bm (q+1) N ds E0 M0 c0 ay al w l a w1→l.getD q true=false→(∃m,m+fuel=ops.size∧(l.toList.filter id).length=m)→Ψ (G (b.at a (.inRegion ops (Region.linearise.go .any ops fuel t l [])::k)) cs) w1:=by
 have Cj:q<ops.size:=hp.le;intro fuel
 induction fuel with
 |zero=>
  intro t l a w1 hI wV ⟨m,hm,hc⟩
  exfalso
  have Ef:l.toList.length=ops.size:=by rw[Array.length_toList];exact hI.size
  have jl:(l.toList.filter id).length=l.toList.length:=by omega
  have:=List.length_filter_eq_length_iff.1 jl;have dJ:q<l.size:=by rw[hI.size];exact Cj
  have h3:=this l[q] (by simp);simp only[Array.getD,dJ,dif_pos] at wV
  simp at h3;simp[h3] at wV
 |succ fuel ih=>
  intro t l a w1 hI wV ⟨m,hm,hc⟩;simp only[Region.linearise.go];generalize kY:((List.range ops.size).filter fun i=>!l.getD i true&&((ops[i]?).map (·.after.all fun e=>!Region.binds .any e||l.getD e.on false)).getD false)=rs;have jg:(List.range ops.size).filter (ready ops l)=rs:=kY;cases hi:rs[t % rs.length]? with
  |none=>
   exfalso
   have ji:rs=[]:=by
    cases rs with
    |nil=>rfl
    |cons x xs=>
     have aT:t % (x::xs).length<(x::xs).length:=Nat.mod_lt _ (by simp);rw[List.getElem?_eq_getElem aT] at hi;cases hi
   rw[ji] at jg
   have aB:∀i,i<q+1→l.getD i false=true:=by
    intro i
    induction i using Nat.strongRecOn with
    |_ i GN=>
     intro jD;have gC:i<ops.size:=by omega
     have dI:i<l.size:=by rw[hI.size];exact gC
     cases hz:l.getD i false with
     |true=>rfl
     |false=>
      exfalso
      have:ready ops l i=true:=(cZ gC).2 ⟨by rw[aR dI true false];exact hz,fun e he hb=>by
       have gI:=hp.low i _ (Array.getElem?_eq_getElem gC) e he hb;exact GN e.on gI (by omega)⟩
      have bY:i∈(List.range ops.size).filter (ready ops l):=List.mem_filter.2 ⟨List.mem_range.2 gC,this⟩;rw[jg] at bY;cases bY
   have:=aB q (by omega);rw[aR (by rw[hI.size];exact Cj) false true,wV] at this;cases this
  |some i=>
   have bY:i∈rs:=List.mem_of_getElem? hi;rw[←jg] at bY;obtain⟨hr,hf⟩:=List.mem_filter.1 bY;have aT:i<ops.size:=List.mem_range.1 hr;obtain⟨f1,f2⟩:=(cZ aT).1 hf;have dI:i<l.size:=by rw[hI.size];exact aT
   have bZ:∀o',ops[i]? =some o'→∀j,j<ops.size→iB bm i j=true→l.getD j false=true:=fun o' eF j hj hb=>by
    obtain⟨_,e,he,h1,h2⟩:=hp.EM i o' j eF hj hb;have ny:ops[i]=o':=Option.some.inj ((Array.getElem?_eq_getElem aT).symm.trans eF);have hd:=f2 e (by rw[ny];exact he) h1;rcases h2 with rfl|h2
    ·exact hd
    ·have gI:=hp.low i o' eF e he h1
     exact hI.down e.on j hd (by omega) hj h2
   simp only
   rw[linearise_go_acc,List.reverse_singleton,List.singleton_append];rcases Nat.lt_trichotomy i q with jD|jD|jD
   ·obtain⟨r,wT,rfl⟩:=kZ i jD
    obtain⟨_,hs⟩:=eE r wT;have ny:ops[r.i]=r.o:=Option.some.inj ((Array.getElem?_eq_getElem aT).symm.trans hs.op);refine qH F hB hk hp nE hN qz hM hu (fun s fJ=>⟨by have:=(eE s fJ).1;omega,(eE s fJ).2⟩) (fun p R z=>by have:=mz p R z;omega) hI wT f1 (fun e he hb=>f2 e (by rw[ny];exact he) hb) _ fun a' w' jU=>?_
    refine ih _ _ _ _ jU (by rw[aM _ dI,if_neg (by omega)];exact wV) ⟨m+1,by omega,?_⟩;have h0:l[r.i]=false:=by have:=f1;simpa [Array.getD,dI] using this
    rw[Array.toList_setIfInBounds];exact hc▸bB l.toList r.i dI h0
   ·subst jD
    have bY:Sat Ok w1 (D7 M0 al)∧w1.heap.size=B+zu c0 al:=by
     rcases hI.mem with ⟨p,R,e1,e2,e3,e4,_⟩|⟨e1,e2,e3⟩
     ·rw[e1];exact⟨e3,by rw[e4];rfl⟩
     ·cases pK:al with
      |none=>exact⟨e2,e3⟩
      |some pr=>
       obtain⟨p,R⟩:=pr;rw[pK] at gC;have:=bZ o ho p (by have:=mz p R pK;omega) gC;rw[e1 p R pK] at this;cases this
    refine U a w1 _ ⟨hI.sz,fun d u hl=>?_⟩ bY.1 bY.2 fun v w2 dR=>?_
    ·rcases kv _ _ _ _ hl with z|z
     ·obtain⟨s,s1,s2,s3,s4⟩:=jf bm i ay d u z
      rw[←s4];exact hI.val s s1 (bZ o ho s.i (by have:=(eE s s1).1;omega) s2) d s3
     ·exact hI.old d u z
    ·have iE:∀s∈ay,∀d,s.o.dst=some d→d∈dstsOf ops (i+1):=fun s fJ d hd=>by
      obtain⟨h1,h2⟩:=eE s fJ;exact List.mem_filterMap.2 ⟨s.i,List.mem_range.2 (by omega),by rw[h2.op];exact hd⟩
     have Ke:∀d,o.dst=some d→d∈dstsOf ops (i+1):=fun d hd=>List.mem_filterMap.2 ⟨i,List.mem_range.2 (by omega),by rw[ho];exact hd⟩
     refine Tv (dq:=o.dst) (v:=v) (w:=w2) F hB hk Cj hp nE (by rw[ho];rfl) hN qz hM hu eE kZ oz (ux v w2 dR).1 (ux v w2 dR).2 (fun l' a' w3 h1 h2 h3 h4=>K v w2 l' a' w3 dR h1 h2 h3 h4) _ _ _ _ w2 (Fr.refl _ _) rfl ⟨by simp[hI.size],fun j h1 h2=>?_,fun i' j h1 h2 h3 h4=>?_,?_,?_,by rw[put_defers];exact hI.Bf,fun s fJ hd dd gV=>?_,fun dd u hl=>?_,fun dd gV=>?_⟩ ⟨m+1,by omega,?_⟩
     ·rw[aM _ dI,if_neg (by omega)];exact hI.late j (by omega) h2
     ·rw[aM _ dI] at h1 ⊢
      by_cases e:j=i
      ·rw[if_pos e]
      ·rw[if_neg e]
       by_cases e':i'=i
       ·subst e';exact bZ o ho j h3 h4
       ·rw[if_neg e'] at h1;exact hI.down i' j h1 h2 h3 h4
     ·rw[aM _ dI,if_pos rfl]
     ·cases hd:o.dst<;>simp[Act.put]<;>exact hI.sz
     ·have G3:s.i≠i:=by have:=(eE s fJ).1;omega
      rw[aM _ dI,if_neg G3] at hd;have h0:=hI.val s fJ hd dd gV;cases Iv:o.dst with
      |none=>exact h0
      |some d'=>
       have aN:d'≠dd:=fun z=>by
        have:=List.all_eq_true.1 (List.all_eq_true.1 nE s.i (List.mem_range.2 (by have:=(eE s fJ).1;omega))) i (List.mem_range.2 (by omega));rw[(eE s fJ).2.op,ho] at this;simp only[Option.bind_some,gV,Iv,z] at this
        simp at this;exact G3 this
       simp only[Act.put];rw[Array.getElem?_setIfInBounds_ne aN];exact h0
     ·have h0:=hI.old dd u hl
      cases Iv:o.dst with
      |none=>exact h0
      |some d'=>
       have aN:d'≠dd:=fun z=>qz dd u hl (by rw[←z];exact Ke d' Iv)
       simp only[Act.put];rw[Array.getElem?_setIfInBounds_ne aN];exact h0
     ·rw[gV];simp only[Act.put];rw[Array.getElem?_setIfInBounds_self,if_pos (by rw[hI.sz];exact hN dd (Ke dd gV))]
     ·have h0:l[i]=false:=by have:=f1;simpa [Array.getD,dI] using this
      rw[Array.toList_setIfInBounds];exact hc▸bB l.toList i dI h0
   ·exfalso
    have:=bZ _ (Array.getElem?_eq_getElem aT) q Cj (hp.chain i jD aT q jD);rw[aR (by rw[hI.size];exact Cj) false true,wV] at this;cases this
def lB(P:Program)(B N:Nat)(E:Env)(M:List ah)(c:Nat)(hs:List Hint)(bs:List (Bool×Bool))(ops:Array Oper)(q:Nat):Option (List Rec×Option (Nat×ah)×cT):=
 bif og ops (Region.before ops) (q+1)&&(dstsOf ops (q+1)).all (fun d=>Nat.blt d N) then
  iQ P B ops (Region.before ops) (cA E (dstsOf ops (q+1))) M c (List.range q) [] none ⟨[],⟨hs,M,c,[],[]⟩,bs,[],[]⟩
 else none
def aE(t:List Item):Array Oper:=match t with
 |.code (.region _ ops true)::_=>ops
 |_=>#[]
def behind(t:List Item):List Item:=match t with
 |.code (.region _ _ true)::k=>k
 |_=>[]
def pE(t:List Item):Bool:=match t with
 |.code (.region _ _ true)::_=>true
 |_=>false
structure PX where
 E1:List (Option Value)
 E2:List (Option Value)
 M:List ah
 c:Nat
 dB:List (Bool×Bool)
 fI:List (Int×Nat)
 aZ:List (Nat×Nat)
 ok:Bool
def CY(P:Program)(ops:Array Oper)(Z:List ah)(alt:List (Nat×List Hint))(r:Rec):Option (Value×cT):=match alt.find? (fun p=>p.1==r.i) with
 |some (_,hs)=>xU P 0 ops r.E r.o (X0 hs (ro Z))
 |none=>none
def KU(P:Program)(ops:Array Oper)(Z:List ah)(alt:List (Nat×List Hint))(r:Rec):Bool:=match CY P ops Z alt r with
 |some (_,y)=>y.m.c==0&&s9 y
 |none=>false
def u7(P:Program)(ops:Array Oper)(Z:List ah)(alt:List (Nat×List Hint))(s:Bool)(r:Option (List Rec×Option (Nat×ah)×cT)):List (Option (Value×List Addr)):=match r with
 |some (ay,_)=>ay.map fun r=>(CY P ops Z alt r).map fun p=>bif s then(p.1,p.2.m.eqs.map Prod.fst) else(r.v,p.2.m.eqs.map Prod.snd)
 |none=>[]
theorem jY{x:cT}(h:s9 x=true)(he:x.m.eqs.map Prod.fst=x.m.eqs.map Prod.snd):oS x:=by
 unfold s9 at h;simp only[Bool.and_eq_true,List.isEmpty_iff] at h;exact⟨gd _ he,by rw[h.2];simp,by rw[h.1.1];simp,by rw[h.1.2];simp⟩
def FC(P:Program)(Z:List ah)(alt:List (Nat×List Hint))(ops:Array Oper)(q:Nat)(E:Env)(M:List ah)(c c0:Nat)(GF GD:List Nat)(r:Option (List Rec×Option (Nat×ah)×cT)):Option PX:=match r with
 |some (ay,al,y)=>some ⟨GF.map (look (iS (Region.before ops) q ay++cA E (dstsOf ops (q+1)))),GD.map (look (lq ay (cA E (dstsOf ops (q+1))))),OJ (zu c al-c0) (D7 M al),zu c al,y.dB,y.fI,y.m.aZ,
  Uw (Region.before ops) q al&&ay.all fun r=>iB (Region.before ops) q r.i||(me P r||KU P ops Z alt r)⟩
 |none=>none
def II(f:Addr×Addr→Addr)(r:Option (List Rec×Option (Nat×ah)×cT)):List Addr:=match r with
 |some (_,_,y)=>y.m.eqs.map f
 |none=>[]
theorem bkO(Z:List ah)(alt:List (Nat×List Hint))(F:aC P main (DX Ok) Ψ)(qX:P.follows .mixedOrders=true)(hB:HB B Ok){b:Frame}(hk:b.kind=.normal){todo:List Item}(q:Nat)(hs:List Hint)(bs:List (Bool×Bool))(c0:Nat)(E1 E2:Env)(M':List ah)(c':Nat){N:Nat}{E:Env}{M:List ah}{c:Nat}(dB:List (Bool×Bool))(fI:List (Int×Nat))(aZ:List (Nat×Nat)){a:Act}{cs:List Frame}{w:World}{o:Oper}(ht:pE todo=true)(ho:(aE todo)[q]? =some o)(h:FC P Z alt (aE todo) q E M c c0 (E1.map Prod.fst) (E2.map Prod.fst) (lB P B N E M c hs bs (aE todo) q)=some ⟨E1.map (fun p=>some p.2),E2.map (fun p=>some p.2),M',c',dB,fI,aZ,true⟩)(hq:II Prod.fst (lB P B N E M c hs bs (aE todo) q)=II Prod.snd (lB P B N E M c hs bs (aE todo) q))(wX:∀d,o.dst=some d→d∉E2.map Prod.fst)(halt:u7 P (aE todo) Z alt true (lB P B N E M c hs bs (aE todo) q)=u7 P (aE todo) Z alt false (lB P B N E M c hs bs (aE todo) q))(p7:∀p∈dB,p.1=p.2)(uT:∀p∈fI,0≤p.1∧p.1<(p.2:Int))(rO:∀p∈aZ,p.1<p.2)(S:St Ok B N E M c a w){Post:Value→World→Prop}(ux:∀v w2,Post v w2→Sat Ok w2 Z∧B≤w2.heap.size)(U:∀a1 w1 rest,St Ok B N E1 M' c' a1 w1→(∀v w2,Post v w2→Ψ (G (b.at (a1.put o.dst v) (.inRegion (aE todo) rest::behind todo)) cs) w2)→Ψ (G (b.at a1 (.inRegion (aE todo) (q::rest)::behind todo)) cs) w1)(K:∀v w2 a2 w3,Post v w2→aO ((match o.dst with|some d=>[(d,v)]|none=>[])++E2) N a2→a2.defers=a.defers→Fr (fun _=>False) w2 w3→w3.heap.size=w2.heap.size→Ψ (G (b.at a2 (.inRegion (aE todo) (bM (q+1) ((aE todo).size-(q+1)))::behind todo)) cs) w3):Ψ (G (b.at a todo) cs) w:=by
 have gB:b.kind≠.early:=by rw[hk];decide
 have NQ:∃id,todo=.code (.region id (aE todo) true)::behind todo:=by
  unfold pE at ht
  split at ht
  ·exact⟨_,rfl⟩
  ·cases ht
 obtain⟨id,NQ⟩:=NQ;generalize gU:aE todo=ops at*;generalize af:behind todo=k at*;cases nB:lB P B N E M c hs bs ops q with
 |none=>rw[nB] at h;cases h
 |some rr=>
  obtain⟨ay,al,y⟩:=rr;rw[nB] at h hq halt;simp only[FC,Option.some.injEq,PX.mk.injEq,Bool.and_eq_true] at h;obtain⟨h1,h2,h3,h4,h5,h6,h7,h8,h9⟩:=h;unfold lB at nB;obtain⟨hc,nO⟩:=az nB;simp only[Bool.and_eq_true,List.all_eq_true] at hc;obtain⟨N2,hN⟩:=hc;obtain⟨hp,nE⟩:=mU N2;obtain⟨hu,_,qt,_,fy,kZ,yS⟩:=iy (List.range q) [] none _ ay al y nO List.nodup_range (by simp) (by simp) (by simp);have hM:oS y:=⟨gd _ hq,by rw[h7];exact rO,by rw[h5];exact p7,by rw[h6];exact uT⟩
  have eE:∀r∈ay,r.i<q∧Spec P B ops (Region.before ops) (cA E (dstsOf ops (q+1))) M c ay al y r:=fun r hr=>by
   rcases yS r hr with z|⟨z1,z2⟩
   ·cases z
   ·exact⟨List.mem_range.1 z1,z2⟩
  have mz:∀p R,al=some (p,R)→p<q:=fun p R z=>by
   rcases fy p R z with y|y
   ·cases y
   ·exact List.mem_range.1 y
  have Eo:IK Ok B ops (Region.before ops) (q+1) N a.defers (cA E (dstsOf ops (q+1))) M c ay al w (Array.replicate ops.size false) a w:=by
   refine⟨by simp,fun j _ hj=>by simp[Array.getD,hj],fun i j h1 h2 _ _=>?_,S.env.sz,rfl,fun r _ h1=>?_,fun d v hl=>S.env.val d v (fQ _ _ _ _ hl).1,Fr.refl _ _,.inr ⟨fun p R _=>?_,S.au,S.sz⟩⟩
   ·simp[Array.getD,h2] at h1
   ·exfalso;simp only[Array.getD] at h1;split at h1<;>simp at h1
   ·simp only[Array.getD];split<;>simp
  rw[NQ];refine F.step _ _ rfl fun d=>⟨_,_,_,stepG_region_draw,F.idle _ _,?_,fun z v _ _=>stepG_region_draw⟩
  show Ψ _ (w.at (d+1))
  refine F.at' _ _ _ ?_;simp only[Region.schedule,qX,Bool.true_or,if_true,Region.linearise]
  refine Tw (Post:=Post) F hB gB ho hp nE (fun e he=>by simpa using hN e he) (fun e v hl=>(fQ _ _ _ _ hl).2) hM hu eE mz (fun i hi=>kZ i (List.mem_range.2 hi)) (Z:=Z) (fun r hr=>by
   have:=List.all_eq_true.1 h9 r hr;simp only[Bool.or_eq_true] at this;refine this.imp_right fun z=>z.imp_right fun z=>?_
   have hm:=List.map_inj_left.1 halt r hr;unfold KU at z
   split at z
   ·rename_i v' y' hz
    simp only[Bool.and_eq_true,beq_iff_eq] at z;rw[hz] at hm;simp only[Option.map_some,cond_true,cond_false,Option.some.injEq,Prod.mk.injEq] at hm;unfold CY at hz
    split at hz
    ·exact⟨_,y',by rw[←hm.1];exact hz,jY z.2 hm.2,z.1⟩
    ·cases hz
   ·cases z) h8 ux (fun a1 w1 rest z1 z2 z3 z4=>?_) (fun v w2 l a' w3 z1 z2 z3 z4 z5=>?_) _ _ _ _ _ Eo (by have:=hp.le;simp[Array.getD];omega) ⟨0,by simp,by simp⟩
  ·exact U a1 w1 rest ⟨⟨z1.sz,fun e u hl=>z1.val e u (fY E1 _ h1 e u hl)⟩,by rw[←h3];exact z2.fg _,by rw[←h4];exact z3⟩ z4
  ·refine K v w2 a' w3 z1 ⟨z2.sz,fun e u hl=>?_⟩ z2.Bf z4 z5
   have UW:∀e u,look E2 e=some u→a'.tmps[e]? =some u:=fun e u hl=>by
    have:=fY E2 _ h2 e u hl;rcases mj _ _ _ _ this with ⟨s,s1,s2,s3⟩|z
    ·rw[←s3];exact z2.val s s1 (z3 s.i (eE s s1).1) e s2
    ·exact z2.old e u z
   cases hd:o.dst with
   |none=>rw[hd] at hl;exact UW e u hl
   |some dq=>
    rw[hd] at hl;simp only[List.cons_append,List.nil_append,look] at hl;cases he:(dq==e) with
    |true=>rw[he] at hl;simp at he hl;subst he;subst hl;exact z2.own _ hd
    |false=>rw[he] at hl;exact UW e u hl
end
def upd{α:Type}(f:Nat→α)(i:Nat)(x:α):Nat→α:=fun j=>if j=i then x else f j
theorem Sat.re{Ok:Addr→Bool→Prop}{w:World}{M:List ah}(h:Sat Ok w M)(p:Nat){r:ah}(hp:nth M p=some r)(hvs:r.vs=[])(C:Nat→List Value)(he:∀j,j<r.n→∀f,f<r.k→(C j).getD f undef=r.vl j f):Sat Ok w (gM M p {r with vl:=fun j f=>(C j).getD f undef}):=by
 have key:∀q s,nth (gM M p {r with vl:=fun j f=>(C j).getD f undef}) q=some s→∃s0,nth M q=some s0∧s.ad=s0.ad∧s.n=s0.n∧s.k=s0.k∧s.wr=s0.wr∧s.row=s0.row∧∀j,s0.has j→s.get j=s0.get j:=fun q s hq=>by
  rw[fP] at hq
  split at hq
  ·rename_i e;subst e;rw[hp] at hq;simp at hq;subst hq
   refine⟨r,hp,rfl,rfl,rfl,rfl,rfl,fun j hj=>?_⟩;simp only[ah.get,hvs];exact he j.1 hj.1 j.2 hj.2
  ·exact⟨s,hq,rfl,rfl,rfl,rfl,rfl,fun _ _=>rfl⟩
 refine⟨fun q s hq j hj=>?_,fun q s hq j hj=>?_,fun q s q' s' hq dQ hw j j' hj bP e=>?_,fun q s hq g e n hg=>?_⟩
 ·obtain⟨s0,h0,e1,e2,e3,e4,e5,e6⟩:=key q s hq
  have WX:s0.has j:=⟨by rw[←e2];exact hj.1,by rw[←e3];exact hj.2⟩;rw[e1,e6 j WX];exact h.val q s0 h0 j WX
 ·obtain⟨s0,h0,e1,e2,e3,e4,e5,e6⟩:=key q s hq
  rw[e1,e4];exact h.ok q s0 h0 j ⟨by rw[←e2];exact hj.1,by rw[←e3];exact hj.2⟩
 ·obtain⟨s0,h0,e1,e2,e3,e4,e5,e6⟩:=key q s hq
  obtain⟨t0,g0,f1,f2,f3,f4,f5,f6⟩:=key q' s' dQ;rw[e1,f1] at e;exact h.sep q s0 q' t0 h0 g0 (by rw[←e4];exact hw) j j' ⟨by rw[←e2];exact hj.1,by rw[←e3];exact hj.2⟩ ⟨by rw[←f2];exact bP.1,by rw[←f3];exact bP.2⟩ e
 ·obtain⟨s0,h0,e1,e2,e3,e4,e5,e6⟩:=key q s hq
  rw[e5] at hg;obtain⟨z1,z2,z3⟩:=h.row q s0 h0 g e n hg;exact⟨⟨by rw[e2];exact z1.1,by rw[e3];exact z1.2⟩,by rw[e1];exact z2,z3⟩
def vY(P:Program)(t e k bytes:Nat):Bool:=match P.underlying t,P.info? e with
 |some (.slice e'),some inf=>e'==e&&inf.size==k&&inf.bytes==bytes&&Nat.blt 0 k&&(match inf.zero with
  |some z=>z.cells.size==k
  |none=>false)
 |_,_=>false
theorem oX{P:Program}{t e k bytes:Nat}(h:vY P t e k bytes=true):∃inf z,P.underlying t=some (.slice e)∧P.info? e=some inf∧inf.zero=some z∧inf.size=k∧inf.bytes=bytes∧z.cells.size=k∧0<k:=by
 unfold vY at h
 split at h
 ·rename_i e' inf h1 h2
  simp only[Bool.and_eq_true] at h;obtain⟨⟨⟨⟨a1,a2⟩,a3⟩,a4⟩,a5⟩:=h;have e1:e'=e:=by simpa using a1
  split at a5
  ·rename_i z hz
   exact⟨inf,z,by rw[←e1];exact h1,h2,hz,by simpa using a2,by simpa using a3,by simpa using a5,by simpa using a4⟩
  ·cases a5
 ·cases h
def aU(t:List Item):Oper:=match t with
 |.inRegion ops (i::_)::_=>(ops[i]?).getD default
 |_=>default
def nL(t:List Item):List Item:=match t with
 |.inRegion ops (_::r)::k=>.inRegion ops r::k
 |_=>[]
def ow(t:List Item):Bool:=match t with
 |.inRegion ops (i::_)::_=>(ops[i]?).isSome
 |_=>false
theorem eX{t:List Item}(h:ow t=true):∃ops i r k,t=.inRegion ops (i::r)::k∧ops[i]? =some (aU t)∧nL t=.inRegion ops r::k:=by
 unfold ow at h
 split at h
 ·rename_i ops i r k
  obtain⟨o,ho⟩:=Option.isSome_iff_exists.1 h;exact⟨ops,i,r,k,rfl,by simp only[aU,ho,Option.getD_some],rfl⟩
 ·cases h
def ry(o:Oper)(s x d t:Nat):Bool:=o.guard.isNone&&(match o.dst with|some d'=>d'==d|none=>false)&&(match o.op with
 |.call c=>(match c.callee,c.args.toList,c.argTypes.toList with
  |.builtin .append,[.tmp s',.tmp x'],[t',Le]=>s'==s&&x'==x&&t'==t&&Le==t
  |_,_,_=>false)
 |_=>false)
theorem kL{o:Oper}{s x d t:Nat}(h:ry o s x d t=true):o.guard=none∧o.dst=some d∧o.op=.call {callee:=.builtin .append,args:=#[.tmp s,.tmp x],argTypes:=#[t,t]}:=by
 unfold ry at h;simp only[Bool.and_eq_true] at h;obtain⟨⟨h1,h2⟩,h3⟩:=h
 have hg:o.guard=none:=by
  cases hg:o.guard with
  |none=>rfl
  |some p=>rw[hg] at h1;cases h1
 refine⟨hg,?_,?_⟩
 ·split at h2
  ·rename_i d' hd;rw[hd];simp at h2;rw[h2]
  ·cases h2
 ·split at h3
  ·rename_i c ho
   obtain⟨cl,args,ats⟩:=c
   simp only at h3
   split at h3
   ·rename_i s' x' t' Le b2 b3
    simp only[Bool.and_eq_true,beq_iff_eq] at h3;obtain⟨⟨⟨a1,a2⟩,a3⟩,a4⟩:=h3;subst a1;subst a2;subst a3;subst a4;have c2:args=#[.tmp s',.tmp x']:=by rw[←Array.toArray_toList (xs:=args),b2]
    have c3:ats=#[Le,Le]:=by rw[←Array.toArray_toList (xs:=ats),b3]
    rw[ho,c2,c3]
   ·cases h3
  ·cases h3
structure My(Ok:Addr→Bool→Prop)(w w':World)(M:List ah)(p p1 k:Nat)(e:TypeId)(sa:Option Addr)(len:Nat)(vl:Nat→List Value)(news:List Value)(g' aj:Nat)(iW bA:Nat→List Value):Prop where
 au:Sat Ok w' (gM (gM M p (vR (some ⟨g',0,none⟩) k iW (len+1) aj e)) p1 (sR (some ⟨g',0,none⟩) k bA (len+1) aj))
 vc:Vc Ok (some ⟨g',0,none⟩) (len+1) aj
 old:∀j,j<len→iW j=vl j
 new:iW len=news
 size:w.heap.size≤w'.heap.size
 blk:sa=some ⟨g',0,none⟩∨w.heap.size≤g'
theorem My.upd{α:Type}{C:α→List Value}{ag:Nat→α}{x:α}{Ok:Addr→Bool→Prop}{w w':World}{M:List ah}{p p1 k:Nat}{e:TypeId}{sa:Option Addr}{len g' aj:Nat}{iW bA:Nat→List Value}(A:My Ok w w' M p p1 k e sa len (fun j=>C (ag j)) (C x) g' aj iW bA)(j:Nat)(hj:j<len+1)(f:Nat)(_:f<k):(C (upd ag len x j)).getD f undef=(iW j).getD f undef:=by
 congr 1
 by_cases h:j=len
 ·subst h;rw[A.new];simp[Go.Proofs.YtobagnjnbmgidaaGreatDoor.upd]
 ·rw[A.old j (by omega)];simp[Go.Proofs.YtobagnjnbmgidaaGreatDoor.upd,h]
theorem My.keep{Ok:Addr→Bool→Prop}{w w' w2:World}{M:List ah}{p p1 k:Nat}{e:TypeId}{sa:Option Addr}{len g' aj:Nat}{vl iW bA:Nat→List Value}{news:List Value}(A:My Ok w w' M p p1 k e sa len vl news g' aj iW bA)(hf:Fr (fun _=>False) w' w2):My Ok w w2 M p p1 k e sa len vl news g' aj iW bA:=
 ⟨A.au.keep hf,A.vc,A.old,A.new,Nat.le_trans A.size hf.size,A.blk⟩
theorem Sat.fZ{Ok:Addr→Bool→Prop}{w:World}{M Z:List ah}(h:Sat Ok w M)(hz:∀i r,nth Z i=some r→r.wr=false∧∃k,nth M k=some r):Sat Ok w Z:=by
 refine⟨fun i r hr j hj=>?_,fun i r hr j hj=>?_,fun i r i' r' hr lD hw=>?_,fun i r hr g e n hg=>?_⟩
 ·obtain⟨_,k,hk⟩:=hz i r hr;exact h.val k r hk j hj
 ·obtain⟨_,k,hk⟩:=hz i r hr;exact h.ok k r hk j hj
 ·rw[(hz i r hr).1] at hw;cases hw
 ·obtain⟨_,k,hk⟩:=hz i r hr;exact h.row k r hk g e n hg
section
variable{P:Program}{main:Bool}{B:Nat}{Ok:Addr→Bool→Prop}{Ψ:Goroutine→World→Prop}
theorem Yd(F:aC P main (DX Ok) Ψ)(hB:HB B Ok){b:Frame}(hk:b.kind=.normal){N c:Nat}{E:Env}{M:List ah}{a:Act}{cs:List Frame}{w:World}{t:List Item}(s x d ty e k bytes p p1 p2:Nat)(qV:vY P ty e k bytes=true){sa:Option Addr}{len cap nb:Nat}{news:List Value}{vl vs:Nat→List Value}(ho:ow t=true)(aQ:ry (aU t) s x d ty=true)(hd:d<N)(hs:look E s=some (.slice sa len cap))(hx:look E x=some (.slice (some ⟨nb,0,none⟩) 1 1))(hp:nth M p=some (vR sa k vl len cap e))(LP:nth M p1=some (sR sa k vs len cap))(NZ:p≠p1)(AF:nth M p2=some (bR nb news))(hv:Vc Ok sa len cap)(PD:∀j,j<len→(vl j).length=k)(hl:news.length=k)(h1:∀u∈news,u.oneCell'=true)(gS:B≤nb)(IF:len+1≤maxLen)(mw:(len+1)*bytes≤140737488355328)(S:St Ok B N E M c a w)(K:∀g' aj iW bA a' w',My Ok w w' M p p1 k e sa len vl news g' aj iW bA→aO ((d,.slice (some ⟨g',0,none⟩) (len+1) aj)::E) N a'→a'.defers=a.defers→Ψ (G (b.at a' (nL t)) cs) w'):Ψ (G (b.at a t) cs) w:=by
 obtain⟨ops,i,r,kk,ht,eF,hn⟩:=eX ho;obtain⟨g1,g2,g3⟩:=kL aQ;obtain⟨inf,z,y1,y2,y3,y4,y5,y6,y7⟩:=oX qV;have dS:∀q v,look E q=some v→a.eval (.tmp q)=v:=fun q v hq=>by rw[S.env.eval (by simp[kn,hq])];simp[ev,hq]
 rw[ht];refine F.TK hB eF g1 hk (.tmp s) (.tmp x) ty e g3 inf z y1 y2 y3 y4 y5 y6 y7 (dS s _ hs) (dS x _ hx) S.au hp LP NZ hv PD AF hl h1 gS (by rw[S.sz];exact Nat.le_add_right _ _) IF mw fun g' aj iW bA w' q1 q2 q3 q4 q5 q6=>?_
 rw[←hn,g2];exact K g' aj iW bA _ w' ⟨q1,q2,q3,q4,q5,q6⟩ (S.env.put hd) (put_defers _ _ _)
theorem Vb(Z:List ah)(alt:List (Nat×List Hint))(F:aC P main (DX Ok) Ψ)(qX:P.follows .mixedOrders=true)(hB:HB B Ok){b:Frame}(hk:b.kind=.normal){f n0:Nat}{dG:List Bool}{dD:List Nat}(q:Nat)(hs:List Hint)(bs:List (Bool×Bool))(E2:Env)(ed:List ah→List ah)(c':Nat){N:Nat}{E:Env}{M:List ah}{c:Nat}(dB:List (Bool×Bool))(fI:List (Int×Nat))(aZ:List (Nat×Nat)){a:Act}{cs:List Frame}{w:World}(s x d ty e k bytes p p1 p2:Nat)(qV:vY P ty e k bytes=true){sa:Option Addr}{len cap nb:Nat}{news:List Value}{vl vs:Nat→List Value}(ht:pE (pc P f n0 dG dD)=true)(aQ:((aE (pc P f n0 dG dD))[q]?).map (fun o=>ry o s x d ty)=some true)(h:FC P Z alt (aE (pc P f n0 dG dD)) q E M c c [s,x] (E2.map Prod.fst) (lB P B N E M c hs bs (aE (pc P f n0 dG dD)) q)=some ⟨[some (.slice sa len cap),some (.slice (some ⟨nb,0,none⟩) 1 1)],E2.map (fun p=>some p.2),ed M,c',dB,fI,aZ,true⟩)(hq:II Prod.fst (lB P B N E M c hs bs (aE (pc P f n0 dG dD)) q)=II Prod.snd (lB P B N E M c hs bs (aE (pc P f n0 dG dD)) q))(halt:u7 P (aE (pc P f n0 dG dD)) Z alt true (lB P B N E M c hs bs (aE (pc P f n0 dG dD)) q)=u7 P (aE (pc P f n0 dG dD)) Z alt false (lB P B N E M c hs bs (aE (pc P f n0 dG dD)) q))(hZ:∀i r,nth Z i=some r→r.wr=false∧∃k,k≠p∧k≠p1∧nth (ed M) k=some r)(LI:(s==x)=false)(wX:(E2.map Prod.fst).contains d=false)(hd:d<N)(LN:.inRegion (aE (pc P f n0 dG dD)) (bM (q+1) ((aE (pc P f n0 dG dD)).size-(q+1)))::behind (pc P f n0 dG dD)=pc P f (n0+1) dG (dD++[q+1]))(p7:∀p∈dB,p.1=p.2)(uT:∀p∈fI,0≤p.1∧p.1<(p.2:Int))(rO:∀p∈aZ,p.1<p.2)(S:St Ok B N E M c a w)(hp:nth (ed M) p=some (vR sa k vl len cap e))(LP:nth (ed M) p1=some (sR sa k vs len cap))(NZ:p≠p1)(AF:nth (ed M) p2=some (bR nb news))(hv:Vc Ok sa len cap)(PD:∀j,j<len→(vl j).length=k)(hl:news.length=k)(h1:∀u∈news,u.oneCell'=true)(gS:B≤nb)(IF:len+1≤maxLen)(mw:(len+1)*bytes≤140737488355328)(K:∀g' aj iW bA a' w' w1,My Ok w1 w' (ed M) p p1 k e sa len vl news g' aj iW bA→w1.heap.size=B+c'→aO ((d,.slice (some ⟨g',0,none⟩) (len+1) aj)::E2) N a'→a'.defers=a.defers→Ψ (G (b.at a' (pc P f (n0+1) dG (dD++[q+1]))) cs) w'):Ψ (G (b.at a (pc P f n0 dG dD)) cs) w:=by
 cases AL:(aE (pc P f n0 dG dD))[q]? with
 |none=>rw[AL] at aQ;cases aQ
 |some o=>
  rw[AL] at aQ;obtain⟨g1,g2,g3⟩:=kL (Option.some.inj aQ);obtain⟨inf,z,y1,y2,y3,y4,y5,y6,y7⟩:=oX qV;refine bkO (Post:=fun v w'=>∃g' aj iW bA w1,v=.slice (some ⟨g',0,none⟩) (len+1) aj∧w1.heap.size=B+c'∧My Ok w1 w' (ed M) p p1 k e sa len vl news g' aj iW bA) Z alt F qX hB hk q hs bs c [(s,.slice sa len cap),(x,.slice (some ⟨nb,0,none⟩) 1 1)] E2 (ed M) c' dB fI aZ ht AL h hq (fun d' oD=>?_) halt p7 uT rO S (fun v w2 dR=>?_) (fun a1 w1 rest S1 KK=>?_) (fun v w2 a2 w3 dR hA vC tP eu=>?_)
  ·rw[g2] at oD;cases oD
   intro hm;rw[List.contains_iff_mem.2 hm] at wX;cases wX
  ·obtain⟨g',aj,iW,bA,w1,rfl,z2,z3⟩:=dR
   refine⟨z3.au.fZ fun i r hr=>?_,by have:=z3.size;omega⟩;obtain⟨u1,kk,u2,u3,u4⟩:=hZ i r hr;exact⟨u1,kk,by rw[fP,if_neg u3,fP,if_neg u2];exact u4⟩
  ·have e1:a1.eval (.tmp s)=.slice sa len cap:=by rw[S1.env.eval (by simp[kn,look])];simp[ev,look]
   have e2:a1.eval (.tmp x)=.slice (some ⟨nb,0,none⟩) 1 1:=by rw[S1.env.eval (by simp[kn,look,LI])];simp[ev,look,LI]
   refine F.TK hB AL g1 hk (.tmp s) (.tmp x) ty e g3 inf z y1 y2 y3 y4 y5 y6 y7 e1 e2 S1.au hp LP NZ hv PD AF hl h1 gS (by rw[S1.sz];exact Nat.le_add_right _ _) IF mw fun g' aj iW bA w' q1 q2 q3 q4 q5 q6=>?_
   exact KK _ _ ⟨g',aj,iW,bA,w1,rfl,S1.sz,q1,q2,q3,q4,q5,q6⟩
  ·obtain⟨g',aj,iW,bA,w1,rfl,z2,z3⟩:=dR
   rw[LN];rw[g2] at hA;exact K g' aj iW bA a2 w3 w1 (z3.keep tP) z2 hA vC
end
end Go.Proofs.YtobagnjnbmgidaaGreatDoor
