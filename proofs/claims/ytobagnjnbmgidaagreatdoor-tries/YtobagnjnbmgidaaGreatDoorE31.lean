import Derived.Test.YtobagnjnbmgidaaGreatDoorE17
set_option linter.all false
set_option maxHeartbeats 2000000
set_option maxRecDepth 100000
namespace Go.Proofs.YtobagnjnbmgidaaGreatDoor
open Go.Conc Go.RowKit
section
variable{P:Program}{main:Bool}{B:Nat}{Ok:Addr→Bool→Prop}{Ψ:Goroutine→World→Prop}
structure Ph(ops:Array Oper)(bm:Array Nat)(q N:Nat)(ds:List Deferred)(E0:Env)(ay:List Rec)(dq:Option Nat)(v:Value)(ox:Oper)(vx:Value)(l:Array Bool)(a':Act):Prop where
 size:l.size=ops.size
 late:∀j,q+1<j→j<ops.size→l.getD j true=false
 down:∀i j,l.getD i false=true→i<ops.size→j<ops.size→iB bm i j=true→l.getD j false=true
 base:l.getD q false=true
 sz:a'.tmps.size=N
 Bf:a'.defers=ds
 val:∀r∈ay,l.getD r.i false=true→∀d,r.o.dst=some d→a'.tmps[d]? =some r.v
 old:∀d u,look E0 d=some u→a'.tmps[d]? =some u
 own:∀d,dq=some d→a'.tmps[d]? =some v
 ext:l.getD (q+1) false=true→∀d,ox.dst=some d→a'.tmps[d]? =some vx
theorem OQ(F:aC P main (DX Ok) Ψ)(hB:HB B Ok){Z:List ah}{b:Frame}(hk:b.kind≠.early){cs:List Frame}{ops:Array Oper}{bm:Array Nat}{q N:Nat}{ds:List Deferred}{E0:Env}{M0:List ah}{c0:Nat}{ay:List Rec}{al:Option (Nat×ah)}{xf:cT}{k:List Item}{dq:Option Nat}{v:Value}{ox:Oper}{Ex:Env}{vx:Value}{w:World}(Cj:q+1<ops.size)(Cp:ops[q+1]? =some ox)(Uy:iB bm (q+1) q=true)(GP:ox.guard=none)(PB:∀a,aO Ex N a→∀w,(execOp a.eval ox).run P w=.ok (.value vx) w∧raw P a ox w=#[])(VW:∀d u,look Ex d=some u→(∃s∈ay,iB bm (q+1) s.i=true∧s.o.dst=some d∧s.v=u)∨look E0 d=some u∨(dq=some d∧v=u))(hp:qN ops bm (q+2))(nE:iN ops (q+2)=true)(Ke:dq=(ops[q]?).bind (·.dst))(hN:∀d∈dstsOf ops (q+2),d<N)(qz:∀d u,look E0 d=some u→d∉dstsOf ops (q+2))(hM:oS xf)(hu:∀r∈ay,∀s∈ay,r.i=s.i→r=s)(eE:∀r∈ay,r.i<q∧Spec P B ops bm E0 M0 c0 ay al xf r)(kZ:∀i,i<q→∃r∈ay,r.i=i)(oz:∀r∈ay,iB bm q r.i=true∨me P r=true∨Late P ops Z r)(ux:Sat Ok w Z)(ey:B≤w.heap.size)(K:∀l a' w',Ph ops bm q N ds E0 ay dq v ox vx l a'→(∀i,i<q+2→l.getD i false=true)→Fr (fun _=>False) w w'→w'.heap.size=w.heap.size→Ψ (G (b.at a' (.inRegion ops (bM (q+2) (ops.size-(q+2)))::k)) cs) w'):
 ∀(fuel t:Nat)(l:Array Bool)(a:Act)(w1:World),Fr (fun _=>False) w w1→w1.heap.size=w.heap.size→Ph ops bm q N ds E0 ay dq v ox vx l a→(∃m,m+fuel=ops.size∧(l.toList.filter id).length=m)→Ψ (G (b.at a (.inRegion ops (Region.linearise.go .any ops fuel t l [])::k)) cs) w1:=by
 intro fuel
 induction fuel with
 |zero=>
  intro t l a w1 gX ck hI ⟨m,hm,hc⟩
  have aB:∀i,i<ops.size→l.getD i true=true:=fun i hi=>by
   have Ef:l.toList.length=ops.size:=by rw[Array.length_toList];exact hI.size
   have jl:(l.toList.filter id).length=l.toList.length:=by omega
   have:=List.length_filter_eq_length_iff.1 jl;have dJ:i<l.size:=by rw[hI.size];exact hi
   have h3:=this l[i] (by simp);simp only[Array.getD,dJ,dif_pos]
   simpa using h3
  have hq:q+2=ops.size:=by
   rcases Nat.lt_or_ge (q+2) ops.size with z|z
   ·have h1:=aB (q+2) z;rw[hI.late (q+2) (by omega) z] at h1;cases h1
   ·exact Nat.le_antisymm hp.le z
  have:=K l a w1 hI (fun i hi=>by rw[aR (by rw[hI.size];omega) false true];exact aB i (by omega)) gX ck;rw[fH hp 0 (q+2) t 0 l (Nat.le_refl _) (by omega) (Nat.le_refl _) hI.size (fun j hj=>aB j (by omega)) (fun j h1 h2=>hI.late j (by omega) h2)];have e:ops.size-(q+2)=0:=by omega
  rw[e] at this;exact this
 |succ fuel ih=>
  intro t l a w1 gX ck hI ⟨m,hm,hc⟩
  by_cases aB:∀i,i<q+2→l.getD i false=true
  ·have hle:m≤q+2:=by
    rw[←hc];refine count_le _ (q+2) fun j hj=>?_
    rcases Nat.lt_or_ge j ops.size with z|z
    ·left
     have:=hI.late j (by omega) z;rw[Array.getD_eq_getD_getElem?] at this;rw[List.getD_eq_getElem?_getD];simpa using this
    ·right;simp[hI.size];exact z
   rw[fH hp (ops.size-(q+2)) (q+2) t (fuel+1) l (Nat.le_refl _) (by omega) (by omega) hI.size (fun j hj=>by
    rw[aR (by rw[hI.size];omega) true false];exact aB j hj) (fun j h1 h2=>hI.late j (by omega) h2)]
   exact K l a w1 hI aB gX ck
  ·simp only[Region.linearise.go]
   generalize kY:((List.range ops.size).filter fun i=>!l.getD i true&&((ops[i]?).map (·.after.all fun e=>!Region.binds .any e||l.getD e.on false)).getD false)=rs;have jg:(List.range ops.size).filter (ready ops l)=rs:=kY;cases hi:rs[t % rs.length]? with
   |none=>
    exfalso
    have ji:rs=[]:=by
     cases rs with
     |nil=>rfl
     |cons x xs=>
      have aT:t % (x::xs).length<(x::xs).length:=Nat.mod_lt _ (by simp);rw[List.getElem?_eq_getElem aT] at hi;cases hi
    rw[ji] at jg
    apply aB
    intro i
    induction i using Nat.strongRecOn with
    |_ i GN=>
     intro jD;have gC:i<ops.size:=by omega
     have dI:i<l.size:=by rw[hI.size];exact gC
     cases hz:l.getD i false with
     |true=>rfl
     |false=>
      exfalso
      have:ready ops l i=true:=(cZ gC).2 ⟨by rw[aR dI true false];exact hz,fun e he hb=>by
       have gI:=hp.low i _ (Array.getElem?_eq_getElem gC) e he hb;exact GN e.on gI (by omega)⟩
      have bY:i∈(List.range ops.size).filter (ready ops l):=List.mem_filter.2 ⟨List.mem_range.2 gC,this⟩;rw[jg] at bY;cases bY
   |some i=>
    have bY:i∈rs:=List.mem_of_getElem? hi;rw[←jg] at bY;obtain⟨hr,hf⟩:=List.mem_filter.1 bY;have aT:i<ops.size:=List.mem_range.1 hr;obtain⟨f1,f2⟩:=(cZ aT).1 hf;have dI:i<l.size:=by rw[hI.size];exact aT
    have jD:i<q∨i=q+1:=by
     rcases Nat.lt_trichotomy i q with z|z|z
     ·exact .inl z
     ·exfalso;subst z
      have:=hI.base;rw[aR dI false true,f1] at this;cases this
     ·rcases Nat.lt_or_ge (q+1) i with z2|z2
      ·exfalso;apply aB
       intro j hj;obtain⟨_,e,he,hb,hd⟩:=hp.EM i _ j (Array.getElem?_eq_getElem aT) (by omega) (hp.chain i z2 aT j (by omega));have gY:=f2 e he hb;rcases hd with rfl|hd
       ·exact gY
       ·have gI:=hp.low i _ (Array.getElem?_eq_getElem aT) e he hb
        exact hI.down e.on j gY (by omega) (by omega) hd
      ·exact .inr (by omega)
    simp only
    rw[linearise_go_acc,List.reverse_singleton,List.singleton_append]
    have bZ:∀o',ops[i]? =some o'→∀j,j<ops.size→iB bm i j=true→l.getD j false=true:=fun o' eF j hj hb=>by
     obtain⟨_,e,he,h1,h2⟩:=hp.EM i o' j eF hj hb;have ny:ops[i]=o':=Option.some.inj ((Array.getElem?_eq_getElem aT).symm.trans eF);have hd:=f2 e (by rw[ny];exact he) h1;rcases h2 with rfl|h2
     ·exact hd
     ·have gI:=hp.low i o' eF e he h1
      exact hI.down e.on j hd (by omega) hj h2
    have iE:∀s∈ay,∀d,s.o.dst=some d→d∈dstsOf ops (q+2):=fun s fJ d hd=>by
     obtain⟨h1,h2⟩:=eE s fJ;exact List.mem_filterMap.2 ⟨s.i,List.mem_range.2 (by omega),by rw[h2.op];exact hd⟩
    have ZY:∀d,ox.dst=some d→d∈dstsOf ops (q+2):=fun d hd=>List.mem_filterMap.2 ⟨q+1,List.mem_range.2 (by omega),by rw[Cp];exact hd⟩
    have Ki:∀i j d,i<q+2→j<q+2→(ops[i]?).bind (·.dst)=some d→(ops[j]?).bind (·.dst)=some d→i=j:=fun i j d h1 h2 h3 h4=>by
     have:=List.all_eq_true.1 (List.all_eq_true.1 nE i (List.mem_range.2 h1)) j (List.mem_range.2 h2);rw[h3,h4] at this
     simpa using this
    have step:∀(o':Oper)(v':Value),ops[i]? =some o'→(∀s∈ay,s.i=i→s.v=v')→(i=q+1→v'=vx)→(∀d,o'.dst=some d→d∈dstsOf ops (q+2))→∀w2,Fr (fun _=>False) w1 w2→w2.heap.size=w1.heap.size→Ψ (G (b.at (a.put o'.dst v') (.inRegion ops (Region.linearise.go .any ops fuel (t / rs.length) (l.setIfInBounds i true) [])::k)) cs) w2:=fun o' v' eF hv1 qU oD w2 mZ dV=>by
     have AH:∀(j dd:Nat),j<q+2→j≠i→(ops[j]?).bind (·.dst)=some dd→∀u,a.tmps[dd]? =some u→(a.put o'.dst v').tmps[dd]? =some u:=fun j dd hj AQ Oc u h0=>by
      cases nA:o'.dst with
      |none=>exact h0
      |some d2=>
       have aN:d2≠dd:=fun z=>AQ (Ki j i dd hj (by omega) Oc (by rw[eF,←z];exact nA))
       simp only[Act.put];rw[Array.getElem?_setIfInBounds_ne aN];exact h0
     refine ih _ _ _ w2 (gX.trans mZ (fun _ z=>z.elim)) (dV.trans ck) ⟨by simp[hI.size],fun j h1 h2=>?_,fun i' j h1 h2 h3 h4=>?_,?_,?_,by rw[put_defers];exact hI.Bf,fun s fJ hd dd gV=>?_,fun dd u hl=>?_,fun dd gV=>?_,fun hd dd gV=>?_⟩ ⟨m+1,by omega,?_⟩
     ·rw[aM _ dI,if_neg (by omega)];exact hI.late j h1 h2
     ·rw[aM _ dI] at h1 ⊢
      by_cases e:j=i
      ·rw[if_pos e]
      ·rw[if_neg e]
       by_cases e':i'=i
       ·subst e';exact bZ o' eF j h3 h4
       ·rw[if_neg e'] at h1;exact hI.down i' j h1 h2 h3 h4
     ·rw[aM _ dI];split
      ·rfl
      ·exact hI.base
     ·cases hd:o'.dst<;>simp[Act.put]<;>exact hI.sz
     ·by_cases e:s.i=i
      ·have eo:s.o=o':=by have:=(eE s fJ).2.op;rw[e,eF] at this;exact(Option.some.inj this).symm
       rw[eo] at gV;rw[gV,hv1 s fJ e];simp only[Act.put];rw[Array.getElem?_setIfInBounds_self,if_pos (by rw[hI.sz];exact hN dd (oD dd gV))]
      ·rw[aM _ dI,if_neg e] at hd
       exact AH s.i dd (by have:=(eE s fJ).1;omega) e (by rw[(eE s fJ).2.op];exact gV) _ (hI.val s fJ hd dd gV)
     ·have h0:=hI.old dd u hl
      cases nA:o'.dst with
      |none=>exact h0
      |some d2=>
       have aN:d2≠dd:=fun z=>qz dd u hl (by rw[←z];exact oD d2 nA)
       simp only[Act.put];rw[Array.getElem?_setIfInBounds_ne aN];exact h0
     ·exact AH q dd (by omega) (by omega) (by rw[←Ke];exact gV) _ (hI.own dd gV)
     ·by_cases e:i=q+1
      ·have eo:o'=ox:=by rw[e,Cp] at eF;exact(Option.some.inj eF).symm
       rw[eo,gV,qU e];simp only[Act.put];rw[Array.getElem?_setIfInBounds_self,if_pos (by rw[hI.sz];exact hN dd (ZY dd gV))]
      ·rw[aM _ dI,if_neg (by omega)] at hd
       exact AH (q+1) dd (by omega) (by omega) (by rw[Cp];exact gV) _ (hI.ext hd dd gV)
     ·have h0:l[i]=false:=by have:=f1;simpa [Array.getD,dI] using this
      rw[Array.toList_setIfInBounds];exact hc▸bB l.toList i dI h0
    rcases jD with jD|jD
    ·obtain⟨r,wT,rfl⟩:=kZ i jD
     obtain⟨_,hs⟩:=eE r wT
     have hA:aO r.E N a:=⟨hI.sz,fun d u hl=>by
      rcases hs.env d u hl with ⟨s,s1,s2,s3,s4⟩|z
      ·rw[←s4];exact hI.val s s1 (bZ r.o hs.op s.i (by have:=(eE s s1).1;omega) s2) d s3
      ·exact hI.old d u z⟩
     have wV:iB bm q r.i=false:=by
      cases hz:iB bm q r.i with
      |false=>rfl
      |true=>
       have:=hI.down q r.i hI.base (by omega) aT hz;rw[aR dI false true,f1] at this;cases this
     have Lh:=step r.o r.v hs.op (fun s fJ e=>by rw[hu s fJ r wT e]) (fun e=>by omega) (iE r wT);rcases(oz r wT).resolve_left (by rw[wV];decide) with GZ|⟨pY,y2,r1,r2,r3⟩
     ·unfold me at GZ
      split at GZ
      ·rename_i v' Az
       have e2:r.o.guard=none:=by
        cases AU:r.o.guard with
        |none=>rfl
        |some p=>rw[AU] at GZ;cases GZ
       obtain⟨e1,e3,e4⟩:=vp hs.run (hs.sub.met hM) e2 Az;subst e1;have cw:execOp a.eval r.o=execOp (ev r.E) r.o:=execOp_congr e3 fun y hy=>hA.eval (Array.all_eq_true_iff_forall_mem.1 e4 y hy)
       have dQ:=fG _ _ Az;refine F.op hs.op (by simp[Region.wanted,e2]) hk fun d K' hK=>?_
       have z2:(execOp a.eval r.o).run P (w1.at d)=.ok (.value r.v) (w1.at d):=by rw[cw,←Sem.runT_fst (es:=#[]),dQ]
       have z3:raw P a r.o (w1.at d)=#[]:=by unfold raw Sem.events;rw[cw,dQ]
       rw[z2];exact hK _ w1 ⟨by rw[z3];exact DX.still d (by simp),Lh w1 (Fr.refl _ _) rfl⟩
      ·cases GZ
     ·refine tC (B:=w1.heap.size) F (fun ad wr z=>hB ad wr (by omega)) hk hs.op (BN r1 (by rw[r3];rfl) _) r2 hA ⟨(ux.keep gX).ro,rfl⟩ fun w2 q1 q2 q3=>Lh w2 (q2.zT fun ad z=>uk z) ?_
      have:=q1.sz;omega
    ·subst jD
     have hA:aO Ex N a:=⟨hI.sz,fun d u hl=>by
      rcases VW d u hl with ⟨s,s1,s2,s3,s4⟩|z|⟨z1,z2⟩
      ·rw[←s4];exact hI.val s s1 (bZ ox Cp s.i (by have:=(eE s s1).1;omega) s2) d s3
      ·exact hI.old d u z
      ·rw[←z2];exact hI.own d z1⟩
     refine F.op Cp (by simp[Region.wanted,GP]) hk fun d K' hK=>?_
     obtain⟨z2,z3⟩:=PB a hA (w1.at d);rw[z2];exact hK _ w1 ⟨by rw[z3];exact DX.still d (by simp),step ox vx Cp (fun s fJ e=>by have:=(eE s fJ).1;omega) (fun _=>rfl) ZY w1 (Fr.refl _ _) rfl⟩
theorem OR(F:aC P main (DX Ok) Ψ)(hB:HB B Ok){b:Frame}(hk:b.kind≠.early){cs:List Frame}{ops:Array Oper}{bm:Array Nat}{q N:Nat}{ds:List Deferred}{E0:Env}{M0:List ah}{c0:Nat}{ay:List Rec}{al:Option (Nat×ah)}{xf:cT}{w:World}{k:List Item}{o:Oper}(ho:ops[q]? =some o){Post:Value→World→Prop}{ox:Oper}{Ex:Value→Env}{vx:Value→Value}(Cp:ops[q+1]? =some ox)(Uy:iB bm (q+1) q=true)(GP:ox.guard=none)(PB:∀v w,Post v w→∀a,aO (Ex v) N a→∀w,(execOp a.eval ox).run P w=.ok (.value (vx v)) w∧raw P a ox w=#[])(VW:∀v w,Post v w→∀d u,look (Ex v) d=some u→(∃s∈ay,iB bm (q+1) s.i=true∧s.o.dst=some d∧s.v=u)∨look E0 d=some u∨(o.dst=some d∧v=u))(hp:qN ops bm (q+2))(nE:iN ops (q+2)=true)(hN:∀d∈dstsOf ops (q+2),d<N)(qz:∀d u,look E0 d=some u→d∉dstsOf ops (q+2))(hM:oS xf)(hu:∀r∈ay,∀s∈ay,r.i=s.i→r=s)(eE:∀r∈ay,r.i<q∧Spec P B ops bm E0 M0 c0 ay al xf r)(mz:∀p R,al=some (p,R)→p<q)(kZ:∀i,i<q→∃r∈ay,r.i=i){Z:List ah}(oz:∀r∈ay,iB bm q r.i=true∨me P r=true∨Late P ops Z r)(gC:Uw bm q al=true)(ux:∀v w2,Post v w2→Sat Ok w2 Z∧B≤w2.heap.size)(U:∀a1 w1 rest,aO (iS bm q ay++E0) N a1→Sat Ok w1 (D7 M0 al)→w1.heap.size=B+zu c0 al→(∀v w2,Post v w2→Ψ (G (b.at (a1.put o.dst v) (.inRegion ops rest::k)) cs) w2)→Ψ (G (b.at a1 (.inRegion ops (q::rest)::k)) cs) w1)(K:∀v w2 l a' w3,Post v w2→Ph ops bm q N ds E0 ay o.dst v ox (vx v) l a'→(∀i,i<q+2→l.getD i false=true)→Fr (fun _=>False) w2 w3→w3.heap.size=w2.heap.size→Ψ (G (b.at a' (.inRegion ops (bM (q+2) (ops.size-(q+2)))::k)) cs) w3):
 ∀(fuel t:Nat)(l:Array Bool)(a:Act)(w1:World),IK Ok B ops bm (q+2) N ds E0 M0 c0 ay al w l a w1→l.getD q true=false→(∃m,m+fuel=ops.size∧(l.toList.filter id).length=m)→Ψ (G (b.at a (.inRegion ops (Region.linearise.go .any ops fuel t l [])::k)) cs) w1:=by
 have RH:q+1<ops.size:=hp.le;have Cj:q<ops.size:=by omega
 intro fuel
 induction fuel with
 |zero=>
  intro t l a w1 hI wV ⟨m,hm,hc⟩
  exfalso
  have Ef:l.toList.length=ops.size:=by rw[Array.length_toList];exact hI.size
  have jl:(l.toList.filter id).length=l.toList.length:=by omega
  have:=List.length_filter_eq_length_iff.1 jl;have dJ:q<l.size:=by rw[hI.size];exact Cj
  have h3:=this l[q] (by simp);simp only[Array.getD,dJ,dif_pos] at wV
  simp at h3;simp[h3] at wV
 |succ fuel ih=>
  intro t l a w1 hI wV ⟨m,hm,hc⟩;simp only[Region.linearise.go];generalize kY:((List.range ops.size).filter fun i=>!l.getD i true&&((ops[i]?).map (·.after.all fun e=>!Region.binds .any e||l.getD e.on false)).getD false)=rs;have jg:(List.range ops.size).filter (ready ops l)=rs:=kY;cases hi:rs[t % rs.length]? with
  |none=>
   exfalso
   have ji:rs=[]:=by
    cases rs with
    |nil=>rfl
    |cons x xs=>
     have aT:t % (x::xs).length<(x::xs).length:=Nat.mod_lt _ (by simp);rw[List.getElem?_eq_getElem aT] at hi;cases hi
   rw[ji] at jg
   have aB:∀i,i<q+1→l.getD i false=true:=by
    intro i
    induction i using Nat.strongRecOn with
    |_ i GN=>
     intro jD;have gC:i<ops.size:=by omega
     have dI:i<l.size:=by rw[hI.size];exact gC
     cases hz:l.getD i false with
     |true=>rfl
     |false=>
      exfalso
      have:ready ops l i=true:=(cZ gC).2 ⟨by rw[aR dI true false];exact hz,fun e he hb=>by
       have gI:=hp.low i _ (Array.getElem?_eq_getElem gC) e he hb;exact GN e.on gI (by omega)⟩
      have bY:i∈(List.range ops.size).filter (ready ops l):=List.mem_filter.2 ⟨List.mem_range.2 gC,this⟩;rw[jg] at bY;cases bY
   have:=aB q (by omega);rw[aR (by rw[hI.size];exact Cj) false true,wV] at this;cases this
  |some i=>
   have bY:i∈rs:=List.mem_of_getElem? hi;rw[←jg] at bY;obtain⟨hr,hf⟩:=List.mem_filter.1 bY;have aT:i<ops.size:=List.mem_range.1 hr;obtain⟨f1,f2⟩:=(cZ aT).1 hf;have dI:i<l.size:=by rw[hI.size];exact aT
   have bZ:∀o',ops[i]? =some o'→∀j,j<ops.size→iB bm i j=true→l.getD j false=true:=fun o' eF j hj hb=>by
    obtain⟨_,e,he,h1,h2⟩:=hp.EM i o' j eF hj hb;have ny:ops[i]=o':=Option.some.inj ((Array.getElem?_eq_getElem aT).symm.trans eF);have hd:=f2 e (by rw[ny];exact he) h1;rcases h2 with rfl|h2
    ·exact hd
    ·have gI:=hp.low i o' eF e he h1
     exact hI.down e.on j hd (by omega) hj h2
   simp only
   rw[linearise_go_acc,List.reverse_singleton,List.singleton_append];rcases Nat.lt_trichotomy i q with jD|jD|jD
   ·obtain⟨r,wT,rfl⟩:=kZ i jD
    obtain⟨_,hs⟩:=eE r wT;have ny:ops[r.i]=r.o:=Option.some.inj ((Array.getElem?_eq_getElem aT).symm.trans hs.op);refine qH F hB hk hp nE hN qz hM hu (fun s fJ=>⟨by have:=(eE s fJ).1;omega,(eE s fJ).2⟩) (fun p R z=>by have:=mz p R z;omega) hI wT f1 (fun e he hb=>f2 e (by rw[ny];exact he) hb) _ fun a' w' jU=>?_
    refine ih _ _ _ _ jU (by rw[aM _ dI,if_neg (by omega)];exact wV) ⟨m+1,by omega,?_⟩;have h0:l[r.i]=false:=by have:=f1;simpa [Array.getD,dI] using this
    rw[Array.toList_setIfInBounds];exact hc▸bB l.toList r.i dI h0
   ·subst jD
    have bY:Sat Ok w1 (D7 M0 al)∧w1.heap.size=B+zu c0 al:=by
     rcases hI.mem with ⟨p,R,e1,e2,e3,e4,_⟩|⟨e1,e2,e3⟩
     ·rw[e1];exact⟨e3,by rw[e4];rfl⟩
     ·cases pK:al with
      |none=>exact⟨e2,e3⟩
      |some pr=>
       obtain⟨p,R⟩:=pr;rw[pK] at gC;have:=bZ o ho p (by have:=mz p R pK;omega) gC;rw[e1 p R pK] at this;cases this
    refine U a w1 _ ⟨hI.sz,fun d u hl=>?_⟩ bY.1 bY.2 fun v w2 dR=>?_
    ·rcases kv _ _ _ _ hl with z|z
     ·obtain⟨s,s1,s2,s3,s4⟩:=jf bm i ay d u z
      rw[←s4];exact hI.val s s1 (bZ o ho s.i (by have:=(eE s s1).1;omega) s2) d s3
     ·exact hI.old d u z
    ·have iE:∀s∈ay,∀d,s.o.dst=some d→d∈dstsOf ops (i+2):=fun s fJ d hd=>by
      obtain⟨h1,h2⟩:=eE s fJ;exact List.mem_filterMap.2 ⟨s.i,List.mem_range.2 (by omega),by rw[h2.op];exact hd⟩
     have Ke:∀d,o.dst=some d→d∈dstsOf ops (i+2):=fun d hd=>List.mem_filterMap.2 ⟨i,List.mem_range.2 (by omega),by rw[ho];exact hd⟩
     refine OQ (dq:=o.dst) (v:=v) (w:=w2) (ox:=ox) (Ex:=Ex v) (vx:=vx v) F hB hk RH Cp Uy GP (PB v w2 dR) (VW v w2 dR) hp nE (by rw[ho];rfl) hN qz hM hu eE kZ oz (ux v w2 dR).1 (ux v w2 dR).2 (fun l' a' w3 h1 h2 h3 h4=>K v w2 l' a' w3 dR h1 h2 h3 h4) _ _ _ _ w2 (Fr.refl _ _) rfl ⟨by simp[hI.size],fun j h1 h2=>?_,fun i' j h1 h2 h3 h4=>?_,?_,?_,by rw[put_defers];exact hI.Bf,fun s fJ hd dd gV=>?_,fun dd u hl=>?_,fun dd gV=>?_,fun hd dd gV=>?_⟩ ⟨m+1,by omega,?_⟩
     ·rw[aM _ dI,if_neg (by omega)];exact hI.late j (by omega) h2
     ·rw[aM _ dI] at h1 ⊢
      by_cases e:j=i
      ·rw[if_pos e]
      ·rw[if_neg e]
       by_cases e':i'=i
       ·subst e';exact bZ o ho j h3 h4
       ·rw[if_neg e'] at h1;exact hI.down i' j h1 h2 h3 h4
     ·rw[aM _ dI,if_pos rfl]
     ·cases hd:o.dst<;>simp[Act.put]<;>exact hI.sz
     ·have G3:s.i≠i:=by have:=(eE s fJ).1;omega
      rw[aM _ dI,if_neg G3] at hd;have h0:=hI.val s fJ hd dd gV;cases Iv:o.dst with
      |none=>exact h0
      |some d'=>
       have aN:d'≠dd:=fun z=>by
        have:=List.all_eq_true.1 (List.all_eq_true.1 nE s.i (List.mem_range.2 (by have:=(eE s fJ).1;omega))) i (List.mem_range.2 (by omega));rw[(eE s fJ).2.op,ho] at this;simp only[Option.bind_some,gV,Iv,z] at this
        simp at this;exact G3 this
       simp only[Act.put];rw[Array.getElem?_setIfInBounds_ne aN];exact h0
     ·have h0:=hI.old dd u hl
      cases Iv:o.dst with
      |none=>exact h0
      |some d'=>
       have aN:d'≠dd:=fun z=>qz dd u hl (by rw[←z];exact Ke d' Iv)
       simp only[Act.put];rw[Array.getElem?_setIfInBounds_ne aN];exact h0
     ·rw[gV];simp only[Act.put];rw[Array.getElem?_setIfInBounds_self,if_pos (by rw[hI.sz];exact hN dd (Ke dd gV))]
     ·exfalso
      rw[aM _ dI,if_neg (by omega)] at hd;have:=hI.down (i+1) i hd RH Cj Uy;rw[aR dI false true,f1] at this;cases this
     ·have h0:l[i]=false:=by have:=f1;simpa [Array.getD,dI] using this
      rw[Array.toList_setIfInBounds];exact hc▸bB l.toList i dI h0
   ·exfalso
    have:=bZ _ (Array.getElem?_eq_getElem aT) q Cj (by
     rcases Nat.lt_or_ge (q+1) i with z|z
     ·exact hp.chain i z aT q jD
     ·have:i=q+1:=by omega
      rw[this];exact Uy)
    rw[aR (by rw[hI.size];exact Cj) false true,wV] at this;cases this
def iD(P:Program)(B N:Nat)(E:Env)(M:List ah)(c:Nat)(hs:List Hint)(bs:List (Bool×Bool))(ops:Array Oper)(q:Nat):Option (List Rec×Option (Nat×ah)×cT):=
 bif og ops (Region.before ops) (q+2)&&(dstsOf ops (q+2)).all (fun d=>Nat.blt d N) then
  iQ P B ops (Region.before ops) (cA E (dstsOf ops (q+2))) M c (List.range q) [] none ⟨[],⟨hs,M,c,[],[]⟩,bs,[],[]⟩
 else none
def Bt(P:Program)(Z:List ah)(alt:List (Nat×List Hint))(ops:Array Oper)(q:Nat)(E:Env)(M:List ah)(c c0:Nat)(GF GD Q8:List Nat)(r:Option (List Rec×Option (Nat×ah)×cT)):Option (PX×List (Option Value)×Bool):=match r with
 |some (ay,al,y)=>some (⟨GF.map (look (iS (Region.before ops) q ay++cA E (dstsOf ops (q+2)))),GD.map (look (lq ay (cA E (dstsOf ops (q+2))))),OJ (zu c al-c0) (D7 M al),zu c al,y.dB,y.fI,y.m.aZ,
  Uw (Region.before ops) q al&&ay.all fun r=>iB (Region.before ops) q r.i||(me P r||KU P ops Z alt r)⟩,Q8.map (look (iS (Region.before ops) (q+1) ay++cA E (dstsOf ops (q+2)))),iB (Region.before ops) (q+1) q)
 |none=>none
theorem bkX(Z:List ah)(alt:List (Nat×List Hint))(F:aC P main (DX Ok) Ψ)(qX:P.follows .mixedOrders=true)(hB:HB B Ok){b:Frame}(hk:b.kind=.normal){todo:List Item}(q:Nat)(hs:List Hint)(bs:List (Bool×Bool))(c0:Nat)(E1 E2 E3:Env)(M':List ah)(c':Nat){N:Nat}{E:Env}{M:List ah}{c:Nat}(dB:List (Bool×Bool))(fI:List (Int×Nat))(aZ:List (Nat×Nat)){a:Act}{cs:List Frame}{w:World}{o ox:Oper}(dq dx:Nat)(vx:Value→Value)(ht:pE todo=true)(ho:(aE todo)[q]? =some o)(Cp:(aE todo)[q+1]? =some ox)(Iv:o.dst=some dq)(Cc:ox.dst=some dx)(GP:ox.guard=none)(pF:mo ox=false)(LD:∀v,ox.op.operands.all (kn ((dq,v)::E3))=true){Post:Value→World→Prop}(NM:∀v w,Post v w→cY P (execOp (ev ((dq,v)::E3)) ox)=some (.value (vx v)))(h:Bt P Z alt (aE todo) q E M c c0 (E1.map Prod.fst) (E2.map Prod.fst) (E3.map Prod.fst) (iD P B N E M c hs bs (aE todo) q)=some (⟨E1.map (fun p=>some p.2),E2.map (fun p=>some p.2),M',c',dB,fI,aZ,true⟩,E3.map (fun p=>some p.2),true))(hq:II Prod.fst (iD P B N E M c hs bs (aE todo) q)=II Prod.snd (iD P B N E M c hs bs (aE todo) q))(wX:dq∉E2.map Prod.fst∧dx∉E2.map Prod.fst∧dq≠dx)(halt:u7 P (aE todo) Z alt true (iD P B N E M c hs bs (aE todo) q)=u7 P (aE todo) Z alt false (iD P B N E M c hs bs (aE todo) q))(p7:∀p∈dB,p.1=p.2)(uT:∀p∈fI,0≤p.1∧p.1<(p.2:Int))(rO:∀p∈aZ,p.1<p.2)(S:St Ok B N E M c a w)(ux:∀v w2,Post v w2→Sat Ok w2 Z∧B≤w2.heap.size)(U:∀a1 w1 rest,St Ok B N E1 M' c' a1 w1→(∀v w2,Post v w2→Ψ (G (b.at (a1.put o.dst v) (.inRegion (aE todo) rest::behind todo)) cs) w2)→Ψ (G (b.at a1 (.inRegion (aE todo) (q::rest)::behind todo)) cs) w1)(K:∀v w2 a2 w3,Post v w2→aO ((dq,v)::(dx,vx v)::E2) N a2→a2.defers=a.defers→Fr (fun _=>False) w2 w3→w3.heap.size=w2.heap.size→Ψ (G (b.at a2 (.inRegion (aE todo) (bM (q+2) ((aE todo).size-(q+2)))::behind todo)) cs) w3):Ψ (G (b.at a todo) cs) w:=by
 have gB:b.kind≠.early:=by rw[hk];decide
 have NQ:∃id,todo=.code (.region id (aE todo) true)::behind todo:=by
  unfold pE at ht
  split at ht
  ·exact⟨_,rfl⟩
  ·cases ht
 obtain⟨id,NQ⟩:=NQ;generalize gU:aE todo=ops at*;generalize af:behind todo=k at*;cases nB:iD P B N E M c hs bs ops q with
 |none=>rw[nB] at h;cases h
 |some rr=>
  obtain⟨ay,al,y⟩:=rr;rw[nB] at h hq halt;simp only[Bt,Option.some.injEq,Prod.mk.injEq,PX.mk.injEq,Bool.and_eq_true] at h;obtain⟨⟨h1,h2,h3,h4,h5,h6,h7,h8,h9⟩,xu,yg⟩:=h;unfold iD at nB;obtain⟨hc,nO⟩:=az nB;simp only[Bool.and_eq_true,List.all_eq_true] at hc;obtain⟨N2,hN⟩:=hc;obtain⟨hp,nE⟩:=mU N2;obtain⟨hu,_,qt,_,fy,kZ,yS⟩:=iy (List.range q) [] none _ ay al y nO List.nodup_range (by simp) (by simp) (by simp);have hM:oS y:=⟨gd _ hq,by rw[h7];exact rO,by rw[h5];exact p7,by rw[h6];exact uT⟩
  have eE:∀r∈ay,r.i<q∧Spec P B ops (Region.before ops) (cA E (dstsOf ops (q+2))) M c ay al y r:=fun r hr=>by
   rcases yS r hr with z|⟨z1,z2⟩
   ·cases z
   ·exact⟨List.mem_range.1 z1,z2⟩
  have mz:∀p R,al=some (p,R)→p<q:=fun p R z=>by
   rcases fy p R z with y|y
   ·cases y
   ·exact List.mem_range.1 y
  have Eo:IK Ok B ops (Region.before ops) (q+2) N a.defers (cA E (dstsOf ops (q+2))) M c ay al w (Array.replicate ops.size false) a w:=by
   refine⟨by simp,fun j _ hj=>by simp[Array.getD,hj],fun i j h1 h2 _ _=>?_,S.env.sz,rfl,fun r _ h1=>?_,fun d v hl=>S.env.val d v (fQ _ _ _ _ hl).1,Fr.refl _ _,.inr ⟨fun p R _=>?_,S.au,S.sz⟩⟩
   ·simp[Array.getD,h2] at h1
   ·exfalso;simp only[Array.getD] at h1;split at h1<;>simp at h1
   ·simp only[Array.getD];split<;>simp
  rw[NQ];refine F.step _ _ rfl fun d=>⟨_,_,_,stepG_region_draw,F.idle _ _,?_,fun z v _ _=>stepG_region_draw⟩
  show Ψ _ (w.at (d+1))
  refine F.at' _ _ _ ?_;simp only[Region.schedule,qX,Bool.true_or,if_true,Region.linearise]
  refine OR (Post:=Post) (ox:=ox) (Ex:=fun v=>(dq,v)::E3) (vx:=vx) F hB gB ho Cp yg GP (fun v w2 N1 a hA w=>?_) (fun v w2 _ e u hl=>?_) hp nE (fun e he=>by simpa using hN e he) (fun e v hl=>(fQ _ _ _ _ hl).2) hM hu eE mz (fun i hi=>kZ i (List.mem_range.2 hi)) (Z:=Z) (fun r hr=>by
   have:=List.all_eq_true.1 h9 r hr;simp only[Bool.or_eq_true] at this;refine this.imp_right fun z=>z.imp_right fun z=>?_
   have hm:=List.map_inj_left.1 halt r hr;unfold KU at z
   split at z
   ·rename_i v' y' hz
    simp only[Bool.and_eq_true,beq_iff_eq] at z;rw[hz] at hm;simp only[Option.map_some,cond_true,cond_false,Option.some.injEq,Prod.mk.injEq] at hm;unfold CY at hz
    split at hz
    ·exact⟨_,y',by rw[←hm.1];exact hz,jY z.2 hm.2,z.1⟩
    ·cases hz
   ·cases z) h8 ux (fun a1 w1 rest z1 z2 z3 z4=>?_) (fun v w2 l a' w3 z1 z2 z3 z4 z5=>?_) _ _ _ _ _ Eo (by have:=hp.le;simp[Array.getD];omega) ⟨0,by simp,by simp⟩
  ·have cw:execOp a.eval ox=execOp (ev ((dq,v)::E3)) ox:=execOp_congr pF fun y hy=>hA.eval (Array.all_eq_true_iff_forall_mem.1 (LD v) y hy)
   have dQ:=fG _ _ (NM v w2 N1);exact⟨by rw[cw,←Sem.runT_fst (es:=#[]),dQ],by unfold raw Sem.events;rw[cw,dQ]⟩
  ·simp only[look] at hl
   cases he:(dq==e) with
   |true=>rw[he] at hl;simp at he hl;subst he;subst hl;exact .inr (.inr ⟨Iv,rfl⟩)
   |false=>
    rw[he] at hl;rcases kv _ _ _ _ (fY E3 _ xu e u hl) with z|z
    ·exact .inl (jf _ _ ay e u z)
    ·exact .inr (.inl z)
  ·exact U a1 w1 rest ⟨⟨z1.sz,fun e u hl=>z1.val e u (fY E1 _ h1 e u hl)⟩,by rw[←h3];exact z2.fg _,by rw[←h4];exact z3⟩ z4
  ·refine K v w2 a' w3 z1 ⟨z2.sz,fun e u hl=>?_⟩ z2.Bf z4 z5
   have UW:∀e u,look E2 e=some u→a'.tmps[e]? =some u:=fun e u hl=>by
    have:=fY E2 _ h2 e u hl;rcases mj _ _ _ _ this with ⟨s,s1,s2,s3⟩|z
    ·rw[←s3];exact z2.val s s1 (z3 s.i (by have:=(eE s s1).1;omega)) e s2
    ·exact z2.old e u z
   simp only[look] at hl;cases he:(dq==e) with
   |true=>rw[he] at hl;simp at he hl;subst he;subst hl;exact z2.own _ Iv
   |false=>
    rw[he] at hl;cases yW:(dx==e) with
    |true=>rw[yW] at hl;simp at yW hl;subst yW;subst hl;exact z2.ext (z3 (q+1) (by omega)) _ Cc
    |false=>rw[yW] at hl;exact UW e u hl
end
end Go.Proofs.YtobagnjnbmgidaaGreatDoor
