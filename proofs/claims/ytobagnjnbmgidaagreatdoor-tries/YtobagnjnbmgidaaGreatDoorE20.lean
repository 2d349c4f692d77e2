import Derived.Test.YtobagnjnbmgidaaGreatDoorE17
set_option linter.all false
set_option maxHeartbeats 2000000
set_option maxRecDepth 100000
namespace Go.Proofs.YtobagnjnbmgidaaGreatDoor
open Go.Conc Go.RowKit
def opsOf(t:List Item):Array Oper:=match t with
 |.inRegion ops _::_=>ops
 |_=>#[]
def XM(E:Env)(t:List Item):Bool:=match (aU t).guard with
 |none=>true
 |some (j,want)=>match ((opsOf t)[j]?).bind (·.dst) with
  |some d=>(match look E d with
   |some (.bool u)=>u==want
   |_=>false)
  |none=>false
theorem xz{E:Env}{t:List Item}{N:Nat}{a:Act}{ops:Array Oper}{i:Nat}{r:List Nat}{k:List Item}(h:XM E t=true)(hA:aO E N a)(ht:t=.inRegion ops (i::r)::k):Region.wanted (aU t) (yielded ops a.tmps)=true:=by
 have ho:opsOf t=ops:=by rw[ht];rfl
 unfold XM at h
 split at h
 ·rename_i hg;simp[Region.wanted,hg]
 ·rename_i j want hg
  split at h
  ·rename_i d hd
   split at h
   ·rename_i u hu
    have Rv:u=want:=by simpa using h
    have hy:yielded ops a.tmps j=some u:=by
     unfold yielded;rw[←ho,hd];simp only[Option.bind_some];rw[hA.val d _ hu]
    simp[Region.wanted,hg,hy,Rv]
   ·cases h
  ·cases h
def mH(P:Program)(E:Env)(t:List Item)(d:Nat):Option (Nat×Array Value):=
 bif ow t&&!mo (aU t)&&XM E t&&(aU t).op.operands.all (kn E)&&(match (aU t).dst with|some d'=>d'==d|none=>false) then
  (match cY P (execOp (ev E) (aU t)) with
  |some (.enter f args)=>some (f,args)
  |_=>none)
 else none
section
variable{P:Program}{main:Bool}{B:Nat}{Ok:Addr→Bool→Prop}{Ψ:Goroutine→World→Prop}
theorem O1(F:aC P main (DX Ok) Ψ){b:Frame}(hk:b.kind=.normal){f n:Nat}{bs:List Bool}{qs:List Nat}{N c:Nat}{E:Env}{M:List ah}{a:Act}{cs:List Frame}{w:World}(d h:Nat)(args:Array Value)(hc:mH P E (pc P f n bs qs) d=some (h,args))(hn:nL (pc P f n bs qs)=pc P f (n+1) bs qs)(hd:d<N)(S:St Ok B N E M c a w)(K:∀cf,(∀v w',(∀a',aO ((d,v)::E) N a'→a'.defers=a.defers→Ψ (G (b.at a' (pc P f (n+1) bs qs)) cs) w')→Ψ (G (cf.finish v) cs) w')→Ψ (G (Frame.enter P h args .normal) (cf::cs)) w):Ψ (G (b.at a (pc P f n bs qs)) cs) w:=by
 obtain⟨hx,hc⟩:=az hc;simp only[Bool.and_eq_true,Bool.not_eq_true'] at hx;obtain⟨⟨⟨⟨h1,h2⟩,h3⟩,h4⟩,h5⟩:=hx;obtain⟨ops,i,r,kk,ht,ho,wU⟩:=eX h1
 split at hc
 ·rename_i f' vT hq
  simp only[Option.some.injEq,Prod.mk.injEq] at hc;obtain⟨rfl,rfl⟩:=hc;have hg:=xz h3 S.env ht
  have iE:(aU (pc P f n bs qs)).dst=some d:=by
   split at h5
   ·rename_i d' oD;rw[oD];simp at h5;rw[h5]
   ·cases h5
  have cw:execOp a.eval (aU (pc P f n bs qs))=execOp (ev E) (aU (pc P f n bs qs)):=execOp_congr h2 fun y hy=>S.env.eval (Array.all_eq_true_iff_forall_mem.1 h4 y hy)
  have dQ:=fG _ _ hq
  have cL:∀v,(b.at a (.inRegion ops (i::r)::kk)).finish v=b.at (a.put (some d) v) (pc P f (n+1) bs qs):=fun v=>by
   rw[Frame.finish_at,ho,←hn,wU];simp only[Option.bind_some,iE]
  generalize aU (pc P f n bs qs)=o at*;rw[ht];refine F.enter (f:=f') (args:=vT) ho hg (by rw[hk];decide) (fun d=>?_) (fun d=>?_) (K _ fun v w' KK=>?_)
  ·rw[cw,←Sem.runT_fst (es:=#[]),dQ]
  ·unfold Sem.events;rw[cw,dQ]
  ·rw[cL];exact KK _ (S.env.put hd) (put_defers _ _ _)
 ·cases hc
end
theorem Ep(L:List Value)(l f:Nat)(x:Value)(hl:l<L.length):(L.set l x).getD f undef=if f=l then x else L.getD f undef:=by
 rw[List.getD_eq_getElem?_getD,List.getD_eq_getElem?_getD]
 by_cases e:f=l
 ·subst e;rw[List.getElem?_set_self hl];simp
 ·rw[List.getElem?_set_ne (fun z=>e z.symm),if_neg e]
theorem iz{α:Type}{C:α→List Value}{g:Nat→α}{t l:Nat}{x:Value}{r:α}(h:(C (g t)).set l x=C r)(hl:l<(C (g t)).length)(j f:Nat):(C (upd g t r j)).getD f undef=vf (fun j f=>(C (g j)).getD f undef) t l x j f:=by
 unfold vf upd
 by_cases e:j=t
 ·subst e
  rw[if_pos rfl,←h,Ep _ _ _ _ hl]
  by_cases e2:f=l
  ·subst e2;simp
  ·have e':(f==l)=false:=by simpa using e2
   simp[e2,e']
 ·have e':(j==t)=false:=by simpa using e
  simp[e,e']
theorem yj{α:Type}{C:α→List Value}{g:Nat→α}{t:Nat}{x0 x1 x2 x3:Value}{r:α}(h:C r=[x0,x1,x2,x3])(hk:(C (g t)).length=4)(j f:Nat)(hf:f<4):(C (upd g t r j)).getD f undef=vf (vf (vf (vf (fun j f=>(C (g j)).getD f undef) t 0 x0) t 1 x1) t 2 x2) t 3 x3 j f:=by
 unfold vf upd
 by_cases e:j=t
 ·subst e
  rw[if_pos rfl,h];rcases f with _|_|_|_|f
  ·simp
  ·simp
  ·simp
  ·simp
  ·omega
 ·have e':(j==t)=false:=by simpa using e
  simp[e,e']
theorem Sat.map{Ok:Addr→Bool→Prop}{w:World}{M M':List ah}(h:Sat Ok w M)(φ:Nat→Nat)(hr:∀i r',nth M' i=some r'→∃r,nth M (φ i)=some r∧(r'=r∨r'={r with wr:=false}))(hi:∀i j r,nth M' i=some r→r.wr=true→φ i=φ j→i=j):Sat Ok w M':=by
 refine⟨fun i r' lD j hj=>?_,fun i r' lD j hj=>?_,fun i r' i' s' lD fJ hw j j' hj bP he=>?_,fun i r' lD g e n hg=>?_⟩
 ·obtain⟨r,h1,rfl|rfl⟩:=hr i r' lD<;>exact h.val _ _ h1 j hj
 ·obtain⟨r,h1,rfl|rfl⟩:=hr i r' lD
  ·exact h.ok _ _ h1 j hj
  ·exact⟨(h.ok _ r h1 j hj).1,fun z=>by cases z⟩
 ·obtain⟨r,h1,rfl|rfl⟩:=hr i r' lD
  ·obtain⟨s,h2,rfl|rfl⟩:=hr i' s' fJ<;>(have:=h.sep _ _ _ _ h1 h2 hw j j' hj bP he;exact⟨hi i i' _ lD hw this.1,this.2⟩)
  ·cases hw
 ·obtain⟨r,h1,rfl|rfl⟩:=hr i r' lD<;>exact h.row _ _ h1 g e n hg
theorem cz:∀(A C:List ah)(i:Nat),nth (A++C) i=if i<A.length then nth A i else nth C (i-A.length)
 |[],C,i=>by simp
 |x::A,C,0=>by simp[nth]
 |x::A,C,i+1=>by
  simp only[List.cons_append,nth,List.length_cons,cz A C i,Nat.add_lt_add_iff_right,Nat.add_sub_add_right]
theorem Sat.lay{Ok:Addr→Bool→Prop}{w:World}{A C:List ah}{r:ah}(h:Sat Ok w (r::(A++C))):Sat Ok w (A++({r with wr:=false}::C)):=by
 refine h.map (fun i=>if i<A.length then i+1 else if i=A.length then 0 else i) (fun i r' hi=>?_) (fun i j r' hi hw e=>?_)
 ·rw[cz] at hi
  split at hi
  ·rename_i z;simp only[z,if_true];exact⟨r',by show nth (A++C) i=_;rw[cz,if_pos z];exact hi,.inl rfl⟩
  ·rename_i z
   simp only[z,if_false]
   by_cases e:i=A.length
   ·subst e;simp[nth] at hi;simp only[if_true];exact⟨r,rfl,.inr hi.symm⟩
   ·simp only[e,if_false]
    obtain⟨k,hk⟩:∃k,i-A.length=k+1:=⟨i-A.length-1,by omega⟩;rw[hk] at hi;refine⟨r',?_,.inl rfl⟩;obtain⟨m,rfl⟩:∃m,i=m+1:=⟨i-1,by omega⟩
    show nth (A++C) m=_
    rw[cz,if_neg (by omega)];have:m-A.length=k:=by omega
    rw[this];exact hi
 ·have key:i≠A.length:=fun z=>by
   subst z;rw[cz,if_neg (by omega)] at hi;simp[nth] at hi;subst hi;cases hw
  split at e
  ·split at e
   ·omega
   ·split at e<;>omega
  ·split at e
   ·omega
   ·split at e<;>omega
theorem Sat.dup{Ok:Addr→Bool→Prop}{w:World}{M:List ah}{i:Nat}{r:ah}(h:Sat Ok w M)(hi:nth M i=some r)(hw:r.wr=false):Sat Ok w (r::M):=by
 refine h.map (fun k=>if k=0 then i else k-1) (fun k r' hk=>?_) (fun k j r' hk yR e=>?_)
 ·rcases cK hk with ⟨k0,rfl,h0⟩|⟨rfl,rfl⟩
  ·exact⟨r',by simpa using h0,.inl rfl⟩
  ·exact⟨r',by simpa using hi,.inl rfl⟩
 ·rcases cK hk with ⟨k0,rfl,h0⟩|⟨rfl,rfl⟩
  ·simp only[Nat.add_one_ne_zero,if_false,Nat.add_sub_cancel] at e
   split at e
   ·subst e;rw[hi] at h0;cases h0;rw[hw] at yR;cases yR
   ·omega
  ·rw[hw] at yR;cases yR
theorem Sat.Jx{Ok:Addr→Bool→Prop}{w:World}{M:List ah}(h:Sat Ok w M)(p:Nat){r:ah}(hp:nth M p=some r)(r':ah)(hj:∀j,r'.has j→r.has j∧r'.ad j=r.ad j∧r'.get j=r.get j)(hw:r'.wr=true→r.wr=true)(kD:r'.row=none):Sat Ok w (gM M p r'):=by
 have key:∀q s,nth (gM M p r') q=some s→∃s0,nth M q=some s0∧(∀j,s.has j→s0.has j∧s.ad j=s0.ad j∧s.get j=s0.get j)∧(s.wr=true→s0.wr=true)∧(s.row=none∨s=s0):=fun q s hq=>by
  rw[fP] at hq
  split at hq
  ·rename_i e;subst e;rw[hp] at hq;simp at hq;subst hq;exact⟨r,hp,hj,hw,.inl kD⟩
  ·exact⟨s,hq,fun _ z=>⟨z,rfl,rfl⟩,id,.inr rfl⟩
 refine⟨fun q s hq j hh=>?_,fun q s hq j hh=>?_,fun q s q' s' hq dQ hw j j' hh Sg e=>?_,fun q s hq g e n hg=>?_⟩
 ·obtain⟨s0,h0,h1,h2,h3⟩:=key q s hq
  obtain⟨z1,z2,z3⟩:=h1 j hh;rw[z2,z3];exact h.val q s0 h0 j z1
 ·obtain⟨s0,h0,h1,h2,h3⟩:=key q s hq
  obtain⟨z1,z2,z3⟩:=h1 j hh;rw[z2];exact⟨(h.ok q s0 h0 j z1).1,fun z=>(h.ok q s0 h0 j z1).2 (h2 z)⟩
 ·obtain⟨s0,h0,h1,h2,h3⟩:=key q s hq
  obtain⟨t0,g0,g1,g2,g3⟩:=key q' s' dQ;obtain⟨z1,z2,z3⟩:=h1 j hh;obtain⟨y1,y2,y3⟩:=g1 j' Sg;rw[z2,y2] at e;exact h.sep q s0 q' t0 h0 g0 (h2 hw) j j' z1 y1 e
 ·obtain⟨s0,h0,h1,h2,h3⟩:=key q s hq
  rcases h3 with z|rfl
  ·rw[z] at hg;cases hg
  ·exact h.row q s h0 g e n hg
theorem Sat.back{Ok:Addr→Bool→Prop}{w:World}{A C:List ah}{r:ah}(h:Sat Ok w (r::(A++C))):Sat Ok w (A++(r::C)):=by
 refine h.map (fun i=>if i<A.length then i+1 else if i=A.length then 0 else i) (fun i r' hi=>?_) (fun i j r' hi hw e=>?_)
 ·rw[cz] at hi
  split at hi
  ·rename_i z;simp only[z,if_true];exact⟨r',by show nth (A++C) i=_;rw[cz,if_pos z];exact hi,.inl rfl⟩
  ·rename_i z
   simp only[z,if_false]
   by_cases e:i=A.length
   ·subst e;simp[nth] at hi;simp only[if_true];exact⟨r,rfl,.inl hi.symm⟩
   ·simp only[e,if_false]
    obtain⟨k,hk⟩:∃k,i-A.length=k+1:=⟨i-A.length-1,by omega⟩;rw[hk] at hi;refine⟨r',?_,.inl rfl⟩;obtain⟨m,rfl⟩:∃m,i=m+1:=⟨i-1,by omega⟩
    show nth (A++C) m=_
    rw[cz,if_neg (by omega)];have:m-A.length=k:=by omega
    rw[this];exact hi
 ·split at e
  ·split at e
   ·omega
   ·split at e<;>omega
  ·rename_i z1
   split at e
   ·rename_i z2
    split at e
    ·omega
    ·split at e<;>omega
   ·rename_i z2
    split at e
    ·omega
    ·split at e<;>omega
theorem gl{α:Type}{Q:α→Prop}:∀p∈([]:List α),Q p:=fun _ h=>by cases h
theorem Ms{α:Type}{Q:α→Prop}{a:α}{l:List α}(h:Q a)(h':∀p∈l,Q p):∀p∈a::l,Q p:=fun p hp=>by
 rcases List.mem_cons.1 hp with rfl|hp
 ·exact h
 ·exact h' p hp
def gH(p:Nat)(j:Ix)(v:Value)(M:List ah):List ah:=match nth M p with
 |some r=>gM M p (r.set j v)
 |none=>M
section
variable{P:Program}{main:Bool}{B B0:Nat}{Ok:Addr→Bool→Prop}{Ψ:Goroutine→World→Prop}
theorem Va(F:aC P main (DX Ok) Ψ)(qX:P.follows .mixedOrders=true)(hB:HB B0 Ok)(hle:B0≤B){b:Frame}(hk:b.kind=.normal){a:Act}{ds:List Deferred}(hd:a.defers=ds){f n0:Nat}{dG:List Bool}{dD:List Nat}(n:Nat)(hs:List Hint)(bs:List (Bool×Bool))(qs:List Nat)(E':Env)(ed:List ah→List ah)(c':Nat)(n':Nat)(vQ:List Bool)(nu:List Nat){N:Nat}{E:Env}{M:List ah}{c:Nat}(dB:List (Bool×Bool))(fI:List (Int×Nat))(aZ:List (Nat×Nat)){cs:List Frame}{w:World}(h:fin c (E'.map Prod.fst) (cE P B n ⟨[⟨f,N,pc P f n0 dG dD,E⟩],⟨hs,M,c,[],[]⟩,bs,[],[]⟩ qs)=some (N,pc P f n' vQ nu,E'.map (fun p=>some p.2),ed M,c',dB,fI,aZ))(hq:ON (cE P B n ⟨[⟨f,N,pc P f n0 dG dD,E⟩],⟨hs,M,c,[],[]⟩,bs,[],[]⟩ qs)=OM (cE P B n ⟨[⟨f,N,pc P f n0 dG dD,E⟩],⟨hs,M,c,[],[]⟩,bs,[],[]⟩ qs))(p7:∀p∈dB,p.1=p.2)(uT:∀p∈fI,0≤p.1∧p.1<(p.2:Int))(rO:∀p∈aZ,p.1<p.2)(S:St Ok B N E M c a w)(K:∀a' w',St Ok B N E' (ed M) c' a' w'→a'.defers=ds→w'.heap.size=B+c'→w.heap.size≤w'.heap.size→Fr (Wr M) w w'→Ψ (G (b.at a' (pc P f n' vQ nu)) cs) w'):Ψ (G (b.at a (pc P f n0 dG dD)) cs) w:=
 bk F qX (fun a wr z=>hB a wr (Nat.le_trans hle z)) hk n hs bs qs E' ed c' n' vQ nu dB fI aZ h hq p7 uT rO S fun a' w' S' oD fr _=>K a' w' S' (oD.trans hd) S'.sz fr.size fr
def Yk(P:Program)(Ok:Addr→Bool→Prop)(Ψ:Goroutine→World→Prop)(b:Frame)(cs:List Frame)(f n:Nat)(bs:List Bool)(qs:List Nat)(N d:Nat)(E:Env)(ds:List Deferred)(cf:Frame):Prop:=
 ∀v w' M,Sat Ok w' M→(∀a' B',St Ok B' N ((d,v)::E) M 0 a' w'→a'.defers=ds→w'.heap.size=B'→Ψ (G (b.at a' (pc P f n bs qs)) cs) w')→Ψ (G (cf.finish v) cs) w'
theorem clz(F:aC P main (DX Ok) Ψ){b:Frame}(hk:b.kind=.normal){a:Act}{ds:List Deferred}(Ej:a.defers=ds){f n:Nat}{bs:List Bool}{qs:List Nat}{N c:Nat}{E:Env}{M:List ah}{cs:List Frame}{w:World}(d h:Nat)(args:Array Value)(hc:mH P E (pc P f n bs qs) d=some (h,args))(hn:nL (pc P f n bs qs)=pc P f (n+1) bs qs)(hd:d<N)(S:St Ok B N E M c a w)(K:∀cf,Yk P Ok Ψ b cs f (n+1) bs qs N d E ds cf→Ψ (G (Frame.enter P h args .normal) (cf::cs)) w):Ψ (G (b.at a (pc P f n bs qs)) cs) w:=
 O1 F hk d h args hc hn hd S fun cf uV=>K cf fun v w' M' hS KK=>uV v w' fun a' hA oD=>KK a' _ ⟨hA,hS,rfl⟩ (oD.trans Ej) rfl
end
structure Sp(P:Program)(ops:Array Oper)(bm:Array Nat)(E0:Env)(Z:List ah)(ay:List Rec)(r:Rec):Prop where
 op:ops[r.i]? =some r.o
 run:xU P 0 ops r.E r.o r.x=some (r.v,r.y)
 met:oS r.y
 env:∀d v,look r.E d=some v→(∃s∈ay,iB bm r.i s.i=true∧s.o.dst=some d∧s.v=v)∨look E0 d=some v
 mem:r.x.m.M=ro Z∧r.x.m.c=0∧r.y.m.c=r.x.m.c
theorem Sp.mono{P:Program}{ops:Array Oper}{bm:Array Nat}{E0:Env}{Z:List ah}{ay Lm:List Rec}{r:Rec}(h:Sp P ops bm E0 Z ay r)(hs:∀s∈ay,s∈Lm):Sp P ops bm E0 Z Lm r:=
 ⟨h.op,h.run,h.met,fun d v hl=>(h.env d v hl).imp (fun⟨s,h1,h2⟩=>⟨s,hs s h1,h2⟩) id,h.mem⟩
structure IL(Ok:Addr→Bool→Prop)(ops:Array Oper)(bm:Array Nat)(q N:Nat)(ds:List Deferred)(E0:Env)(Z:List ah)(ay:List Rec)(w:World)(l:Array Bool)(a':Act)(w':World):Prop where
 size:l.size=ops.size
 late:∀j,q≤j→j<ops.size→l.getD j true=false
 down:∀i j,l.getD i false=true→i<ops.size→j<ops.size→iB bm i j=true→l.getD j false=true
 sz:a'.tmps.size=N
 Bf:a'.defers=ds
 val:∀r∈ay,l.getD r.i false=true→∀d,r.o.dst=some d→a'.tmps[d]? =some r.v
 old:∀d v,look E0 d=some v→a'.tmps[d]? =some v
 fr:Fr (fun _=>False) w w'
 cU:w'.heap.size=w.heap.size
 au:Sat Ok w' Z
theorem vM{ops:Array Oper}{bm:Array Nat}{q:Nat}(hp:qN ops bm q){l:Array Bool}(cU:l.size=ops.size)(Sn:∀i j,l.getD i false=true→i<ops.size→j<ops.size→iB bm i j=true→l.getD j false=true)(aB:¬∀i,i<q→l.getD i false=true){fuel t:Nat}:
 ∃i,i<q∧∃aT:i<ops.size,l.getD i true=false∧(∀e∈ops[i].after,Region.binds .any e=true→l.getD e.on false=true)∧∃t',Region.linearise.go .any ops (fuel+1) t l []=i::Region.linearise.go .any ops fuel t' (l.setIfInBounds i true) []:=by
 simp only[Region.linearise.go];generalize kY:((List.range ops.size).filter fun i=>!l.getD i true&&((ops[i]?).map (·.after.all fun e=>!Region.binds .any e||l.getD e.on false)).getD false)=rs;have jg:(List.range ops.size).filter (ready ops l)=rs:=kY;cases hi:rs[t % rs.length]? with
 |none=>
  exfalso
  have ji:rs=[]:=by
   cases rs with
   |nil=>rfl
   |cons x xs=>
    have aT:t % (x::xs).length<(x::xs).length:=Nat.mod_lt _ (by simp);rw[List.getElem?_eq_getElem aT] at hi;cases hi
  rw[ji] at jg
  apply aB
  intro i;have J3:=hp.le
  induction i using Nat.strongRecOn with
  |_ i GN=>
   intro jD;have gC:i<ops.size:=by omega
   have dI:i<l.size:=by rw[cU];exact gC
   cases hz:l.getD i false with
   |true=>rfl
   |false=>
    exfalso
    have:ready ops l i=true:=(cZ gC).2 ⟨by rw[aR dI true false];exact hz,fun e he hb=>by
     have gI:=hp.low i _ (Array.getElem?_eq_getElem gC) e he hb;exact GN e.on gI (by omega)⟩
    have bY:i∈(List.range ops.size).filter (ready ops l):=List.mem_filter.2 ⟨List.mem_range.2 gC,this⟩;rw[jg] at bY;cases bY
 |some i=>
  have bY:i∈rs:=List.mem_of_getElem? hi;rw[←jg] at bY;obtain⟨hr,hf⟩:=List.mem_filter.1 bY;have aT:i<ops.size:=List.mem_range.1 hr;obtain⟨f1,f2⟩:=(cZ aT).1 hf;have J3:=hp.le
  have jD:i<q:=by
   rcases Nat.lt_or_ge i q with z|z
   ·exact z
   ·exfalso;apply aB
    intro j hj;obtain⟨_,e,he,hb,hd⟩:=hp.EM i _ j (Array.getElem?_eq_getElem aT) (by omega) (hp.chain i z aT j (by omega));have gY:=f2 e he hb;rcases hd with rfl|hd
    ·exact gY
    ·have gI:=hp.low i _ (Array.getElem?_eq_getElem aT) e he hb
     exact Sn e.on j gY (by omega) (by omega) hd
  refine⟨i,jD,aT,f1,f2,?_⟩
  simp only
  rw[linearise_go_acc,List.reverse_singleton,List.singleton_append];exact⟨_,rfl⟩
section
variable{P:Program}{main:Bool}{Ok:Addr→Bool→Prop}{Ψ:Goroutine→World→Prop}
theorem Mr{ops:Array Oper}{q:Nat}(nE:iN ops q=true){i j d:Nat}(h1:i<q)(h2:j<q)(h3:(ops[i]?).bind (·.dst)=some d)(h4:(ops[j]?).bind (·.dst)=some d):i=j:=by
 have:=List.all_eq_true.1 (List.all_eq_true.1 nE i (List.mem_range.2 h1)) j (List.mem_range.2 h2);rw[h3,h4] at this
 simpa using this
theorem xI{Ok:Addr→Bool→Prop}{ops:Array Oper}{bm:Array Nat}{q N:Nat}{ds:List Deferred}{E0:Env}{Z:List ah}{ay:List Rec}{w w1:World}{l:Array Bool}{a:Act}(hp:qN ops bm q)(hI:IL Ok ops bm q N ds E0 Z ay w l a w1){i:Nat}{o:Oper}(ho:ops[i]? =some o)(yX:∀e∈o.after,Region.binds .any e=true→l.getD e.on false=true):∀j,j<ops.size→iB bm i j=true→l.getD j false=true:=fun j hj hb=>by
 have gC:i<ops.size:=(Array.getElem?_eq_some_iff.1 ho).1;obtain⟨_,e,he,h1,h2⟩:=hp.EM i o j ho hj hb;have hd:=yX e he h1;rcases h2 with rfl|h2
 ·exact hd
 ·have gI:=hp.low i o ho e he h1
  exact hI.down e.on j hd (by omega) hj h2
theorem IL.put{ops:Array Oper}{bm:Array Nat}{q N:Nat}{ds:List Deferred}{E0:Env}{Z:List ah}{ay:List Rec}{w w1 w2:World}{l:Array Bool}{a:Act}(hp:qN ops bm q)(nE:iN ops q=true)(hN:∀d∈dstsOf ops q,d<N)(qz:∀d v,look E0 d=some v→d∉dstsOf ops q)(hu:∀r∈ay,∀s∈ay,r.i=s.i→r=s)(aQ:∀r∈ay,r.i<q∧ops[r.i]? =some r.o)(hI:IL Ok ops bm q N ds E0 Z ay w l a w1){r:Rec}(hr:r∈ay)(yX:∀e∈r.o.after,Region.binds .any e=true→l.getD e.on false=true)(hf:Fr (fun _=>False) w1 w2)(hz:w2.heap.size=w1.heap.size):IL Ok ops bm q N ds E0 Z ay w (l.setIfInBounds r.i true) (a.put r.o.dst r.v) w2:=by
 obtain⟨jD,ho⟩:=aQ r hr;have gC:r.i<ops.size:=Nat.lt_of_lt_of_le jD hp.le;have dI:r.i<l.size:=by rw[hI.size];exact gC
 have iE:∀s∈ay,∀d,s.o.dst=some d→d∈dstsOf ops q:=fun s fJ d hd=>by
  obtain⟨h1,h2⟩:=aQ s fJ;exact List.mem_filterMap.2 ⟨s.i,List.mem_range.2 h1,by rw[h2];exact hd⟩
 have vE:=xI hp hI ho yX;refine⟨by simp[hI.size],fun j hj bP=>?_,fun i j h1 h2 h3 h4=>?_,?_,by rw[put_defers];exact hI.Bf,fun s fJ hd d gV=>?_,fun d v hl=>?_,hI.fr.trans hf (fun _ z=>z.elim),hz.trans hI.cU,hI.au.keep hf⟩
 ·rw[aM _ dI,if_neg (by omega)];exact hI.late j hj bP
 ·rw[aM _ dI] at h1 ⊢
  by_cases e:j=r.i
  ·rw[if_pos e]
  ·rw[if_neg e]
   by_cases e':i=r.i
   ·subst e';exact vE j h3 h4
   ·rw[if_neg e'] at h1;exact hI.down i j h1 h2 h3 h4
 ·cases hd:r.o.dst with
  |none=>simp[Act.put];exact hI.sz
  |some d=>simp[Act.put];exact hI.sz
 ·by_cases e:s.i=r.i
  ·have:=hu s fJ r hr e;subst this
   rw[gV];simp only[Act.put];rw[Array.getElem?_setIfInBounds_self,if_pos (by rw[hI.sz];exact hN d (iE _ hr d gV))]
  ·rw[aM _ dI,if_neg e] at hd
   have h0:=hI.val s fJ hd d gV;cases nA:r.o.dst with
   |none=>exact h0
   |some d'=>
    have aN:d'≠d:=fun z=>e (Mr nE (aQ s fJ).1 jD (by rw[(aQ s fJ).2];exact gV) (by rw[ho];show r.o.dst=some d;rw[nA,z]))
    simp only[Act.put];rw[Array.getElem?_setIfInBounds_ne aN];exact h0
 ·have h0:=hI.old d v hl
  cases nA:r.o.dst with
  |none=>exact h0
  |some d'=>
   have aN:d'≠d:=fun z=>qz d v hl (by rw[←z];exact iE _ hr d' nA)
   simp only[Act.put];rw[Array.getElem?_setIfInBounds_ne aN];exact h0
theorem BJ(F:aC P main (DX Ok) Ψ){B0:Nat}(hB:HB B0 Ok){b:Frame}(hk:b.kind≠.early){cs:List Frame}{ops:Array Oper}{bm:Array Nat}{q N:Nat}{ds:List Deferred}{E0:Env}{Z:List ah}{ay:List Rec}{w:World}{k:List Item}(hp:qN ops bm q)(nE:iN ops q=true)(hN:∀d∈dstsOf ops q,d<N)(qz:∀d v,look E0 d=some v→d∉dstsOf ops q)(hu:∀r∈ay,∀s∈ay,r.i=s.i→r=s)(aQ:∀r∈ay,r.i<q∧ops[r.i]? =some r.o){l:Array Bool}{a:Act}{w1:World}(hI:IL Ok ops bm q N ds E0 Z ay w l a w1){r:Rec}(hr:r∈ay)(hs:Sp P ops bm E0 Z ay r)(ey:B0≤w.heap.size)(yX:∀e∈r.o.after,Region.binds .any e=true→l.getD e.on false=true)(rest:List Nat)(K:∀a' w',IL Ok ops bm q N ds E0 Z ay w (l.setIfInBounds r.i true) a' w'→Ψ (G (b.at a' (.inRegion ops rest::k)) cs) w'):Ψ (G (b.at a (.inRegion ops (r.i::rest)::k)) cs) w1:=by
 have vE:=xI hp hI hs.op yX
 have hA:aO r.E N a:=⟨hI.sz,fun d v hl=>by
  rcases hs.env d v hl with ⟨s,s1,s2,s3,s4⟩|z
  ·rw[←s4];exact hI.val s s1 (vE s.i (Nat.lt_of_lt_of_le (aQ s s1).1 hp.le) s2) d s3
  ·exact hI.old d v z⟩
 have GW:Sat Ok w1 r.x.m.M:=by rw[hs.mem.1];exact hI.au.ro
 have Wb:=hI.cU;have uX:=hs.mem.2.1;refine tC (B:=w1.heap.size) F (fun ad wr z=>hB ad wr (by omega)) hk hs.op (BN hs.run hs.mem.2.2 _) hs.met hA ⟨GW,by omega⟩ fun w2 h1 h2 h3=>K _ _ (IL.put hp nE hN qz hu aQ hI hr yX (h2.zT fun ad z=>?_) ?_)
 ·rw[hs.mem.1] at z;exact uk z
 ·have:=h1.sz;have:=hs.mem.2.2;omega
theorem EC(F:aC P main (DX Ok) Ψ){B0:Nat}(hB:HB B0 Ok){b:Frame}(hk:b.kind≠.early){cs:List Frame}{ops:Array Oper}{bm:Array Nat}{q q0 N:Nat}{ds:List Deferred}{E0:Env}{Z:List ah}{ay:List Rec}{w:World}{k:List Item}(hp:qN ops bm q)(nE:iN ops q=true)(hN:∀d∈dstsOf ops q,d<N)(qz:∀d v,look E0 d=some v→d∉dstsOf ops q)(hu:∀r∈ay,∀s∈ay,r.i=s.i→r=s)(aQ:∀r∈ay,r.i<q∧ops[r.i]? =some r.o)(Cm:q0<q)(eE:∀r∈ay,r.i≠q0→Sp P ops bm E0 Z ay r)(kZ:∀i,i<q→∃r∈ay,r.i=i)(ey:B0≤w.heap.size)(K:∀l a' w',IL Ok ops bm q N ds E0 Z ay w l a' w'→(∀i,i<q→l.getD i false=true)→Ψ (G (b.at a' (.inRegion ops (bM q (ops.size-q))::k)) cs) w'):
 ∀(fuel t:Nat)(l:Array Bool)(a:Act)(w1:World),IL Ok ops bm q N ds E0 Z ay w l a w1→l.getD q0 false=true→(∃m,m+fuel=ops.size∧(l.toList.filter id).length=m)→Ψ (G (b.at a (.inRegion ops (Region.linearise.go .any ops fuel t l [])::k)) cs) w1:=by
 intro fuel
 induction fuel with
 |zero=>
  intro t l a w1 hI h0 ⟨m,hm,hc⟩
  have aB:∀i,i<ops.size→l.getD i true=true:=fun i hi=>by
   have Ef:l.toList.length=ops.size:=by rw[Array.length_toList];exact hI.size
   have jl:(l.toList.filter id).length=l.toList.length:=by omega
   have:=List.length_filter_eq_length_iff.1 jl;have dJ:i<l.size:=by rw[hI.size];exact hi
   have h3:=this l[i] (by simp);simp only[Array.getD,dJ,dif_pos]
   simpa using h3
  have hq:q=ops.size:=by
   rcases Nat.lt_or_ge q ops.size with z|z
   ·have h1:=aB q z;rw[hI.late q (Nat.le_refl _) z] at h1;cases h1
   ·exact Nat.le_antisymm hp.le z
  have:=K l a w1 hI (fun i hi=>by rw[aR (by rw[hI.size];omega) false true];exact aB i (by omega));rw[fH hp 0 q t 0 l (Nat.le_refl _) (by omega) (Nat.le_refl _) hI.size (fun j hj=>aB j (by omega)) (fun j h1 h2=>hI.late j h1 h2)];have e:ops.size-q=0:=by omega
  rw[e] at this;exact this
 |succ fuel ih=>
  intro t l a w1 hI h0 ⟨m,hm,hc⟩
  by_cases aB:∀i,i<q→l.getD i false=true
  ·have hle:m≤q:=by
    rw[←hc];refine count_le _ q fun j hj=>?_
    rcases Nat.lt_or_ge j ops.size with z|z
    ·left
     have:=hI.late j hj z;rw[Array.getD_eq_getD_getElem?] at this;rw[List.getD_eq_getElem?_getD];simpa using this
    ·right;simp[hI.size];exact z
   have J3:=hp.le
   rw[fH hp (ops.size-q) q t (fuel+1) l (Nat.le_refl _) (by omega) (by omega) hI.size (fun j hj=>by
    rw[aR (by rw[hI.size];omega) true false];exact aB j hj) (fun j h1 h2=>hI.late j h1 h2)]
   exact K l a w1 hI aB
  ·obtain⟨i,jD,aT,f1,f2,t',hgo⟩:=vM hp hI.size hI.down aB (fuel:=fuel) (t:=t)
   rw[hgo];obtain⟨r,hr,rfl⟩:=kZ i jD;have dI:r.i<l.size:=by rw[hI.size];exact aT
   have aN:r.i≠q0:=fun z=>by rw[←z,aR dI false true,f1] at h0;cases h0
   have ny:ops[r.i]=r.o:=Option.some.inj ((Array.getElem?_eq_getElem aT).symm.trans (aQ r hr).2);refine BJ F hB hk hp nE hN qz hu aQ hI hr (eE r hr aN) ey (fun e he hb=>f2 e (by rw[ny];exact he) hb) _ fun a' w' jU=>ih _ _ _ _ jU ?_ ⟨m+1,by omega,?_⟩
   ·rw[aM _ dI,if_neg (fun z=>aN z.symm)];exact h0
   ·have h0:l[r.i]=false:=by have:=f1;simpa [Array.getD,dI] using this
    rw[Array.toList_setIfInBounds];exact hc▸bB l.toList r.i dI h0
end
def I1(bm:Array Nat)(q q0:Nat):List Nat:=(List.range q).filter fun i=>!(i==q0)&&!iB bm i q0
def I2(bm:Array Nat)(q q0:Nat):List Nat:=(List.range q).filter fun i=>iB bm i q0
theorem qm{bm:Array Nat}{q q0 i:Nat}:i∈I1 bm q q0↔i<q∧i≠q0∧iB bm i q0=false:=by
 unfold I1;rw[List.mem_filter];simp
theorem wJ{bm:Array Nat}{q q0 i:Nat}:i∈I2 bm q q0↔i<q∧iB bm i q0=true:=by
 unfold I2;rw[List.mem_filter];simp
section
variable{P:Program}{main:Bool}
theorem xB{ops:Array Oper}{bm:Array Nat}{E0:Env}{Z:List ah}{is:List Nat}{acc ay:List Rec}{x xf:cT}(h:iQ P 0 ops bm E0 Z 0 is acc none x=some (ay,none,xf))(hm:oS xf)(wX:is.Nodup)(h1:∀r∈acc,r.i∉is)(h2:∀r∈acc,∀s∈acc,r.i=s.i→r=s):
 (∀r∈ay,∀s∈ay,r.i=s.i→r=s)∧(∀r∈acc,r∈ay)∧(∀i∈is,∃r∈ay,r.i=i)∧(∀r∈ay,r∈acc∨(r.i∈is∧Sp P ops bm E0 Z ay r)):=by
 obtain⟨a1,a2,a3,a4,a5,a6,a7⟩:=iy is acc none x ay none xf h wX h1 (fun p R z=>by cases z) h2;refine⟨a1,a2,a6,fun r hr=>(a7 r hr).imp id fun⟨z1,z2⟩=>⟨z1,z2.op,z2.run,z2.sub.met hm,z2.env,?_⟩⟩;rcases z2.mem with ⟨e1,e2,e3⟩|⟨_,_,_,R,e,_⟩
 ·rcases e3 with ⟨e3,e4⟩|⟨p,R,e,_⟩
  ·exact⟨e3,e4,e1⟩
  ·cases e
 ·cases e
theorem Tt{γ:Type}{Ok:γ→Addr→Bool→Prop}{Ψ:γ→Goroutine→World→Prop}(F:∀p,aC P main (DX (Ok p)) (Ψ p))(qX:P.follows .mixedOrders=true){Bd:γ→Nat}(hB:∀p (a:Addr) (wr:Bool),Bd p≤a.block→Ok p a wr){b:Frame}(hk:b.kind≠.early){cs:List Frame}{k:List Item}{ops:Array Oper}{id q q0 N:Nat}{E0:Env}{Z:List ah}{p0:γ}{a:Act}{w:World}{o:Oper}{x0 x1:cT}{l9:List Rec}(ho:ops[q0]? =some o)(nB:og ops (Region.before ops) q=true)(Cm:q0<q)(hN:∀d∈dstsOf ops q,d<N)(qz:∀d v,look E0 d=some v→d∉dstsOf ops q)(hA:aO E0 N a)(hS:Sat (Ok p0) w Z)(ey:Bd p0≤w.heap.size)(gX:iQ P 0 ops (Region.before ops) E0 Z 0 (I1 (Region.before ops) q q0) [] none x0=some (l9,none,x1))(R9:oS x1){Post:γ→Value→World→Prop}(U:∀a1 w1 rest,aO (iS (Region.before ops) q0 l9++E0) N a1→a1.defers=a.defers→Fr (fun _=>False) w w1→w1.heap.size=w.heap.size→(∀p v w2,Post p v w2→Ψ p (G (b.at (a1.put o.dst v) (.inRegion ops rest::k)) cs) w2)→Ψ p0 (G (b.at a1 (.inRegion ops (q0::rest)::k)) cs) w1)(K:∀p v w2,Post p v w2→Bd p≤w2.heap.size∧Sat (Ok p) w2 Z∧∃x2 nK x3,iQ P 0 ops (Region.before ops) E0 Z 0 (I2 (Region.before ops) q q0) (⟨q0,o,[],x0,v,x0⟩::l9) none x2=some (nK,none,x3)∧oS x3∧
 ∀a2 w3,aO (lq nK E0) N a2→a2.defers=a.defers→Fr (fun _=>False) w2 w3→w3.heap.size=w2.heap.size→Ψ p (G (b.at a2 (.inRegion ops (bM q (ops.size-q))::k)) cs) w3):
 Ψ p0 (G (b.at a (.code (.region id ops true)::k)) cs) w:=by
 obtain⟨hp,nE⟩:=mU nB;generalize hbm:Region.before ops=bm at*;have J3:=hp.le;have J2:q0<ops.size:=by omega
 obtain⟨u1,_,c1,s1⟩:=xB gX R9 (List.nodup_range.filter _) (by simp) (by simp);have Pt:∀r∈l9,r.i∈I1 bm q q0∧Sp P ops bm E0 Z l9 r:=fun r hr=>(s1 r hr).resolve_left (by simp)
 have AK:∀r∈l9,r.i<q∧ops[r.i]? =some r.o:=fun r hr=>⟨(qm.1 (Pt r hr).1).1,(Pt r hr).2.op⟩
 have bqq:iB bm q0 q0=false:=by
  cases hz:iB bm q0 q0 with
  |false=>rfl
  |true=>have:=(hp.EM q0 o q0 ho J2 hz).1;omega
 have main:∀(fuel t:Nat)(l:Array Bool)(a1:Act)(w1:World),IL (Ok p0) ops bm q N a.defers E0 Z l9 w l a1 w1→l.getD q0 false=false→(∃m,m+fuel=ops.size∧(l.toList.filter _root_.id).length=m)→Ψ p0 (G (b.at a1 (.inRegion ops (Region.linearise.go .any ops fuel t l [])::k)) cs) w1:=by
  intro fuel
  induction fuel with
  |zero=>
   intro t l a1 w1 hI h0 ⟨m,hm,hc⟩
   exfalso
   have Ef:l.toList.length=ops.size:=by rw[Array.length_toList];exact hI.size
   have jl:(l.toList.filter _root_.id).length=l.toList.length:=by omega
   have:=List.length_filter_eq_length_iff.1 jl;have dJ:q0<l.size:=by rw[hI.size];exact J2
   have h3:=this l[q0] (by simp);simp only[Array.getD,dJ,dif_pos] at h0;have uy:l[q0]=false:=h0;rw[uy] at h3;cases h3
  |succ fuel ih=>
   intro t l a1 w1 hI h0 ⟨m,hm,hc⟩;obtain⟨i,jD,aT,f1,f2,t',hgo⟩:=vM hp hI.size hI.down (fun z=>by have:=z q0 Cm;rw[h0] at this;cases this) (fuel:=fuel) (t:=t);rw[hgo];have dI:i<l.size:=by rw[hI.size];exact aT
   have WB:ops[i]? =some ops[i]:=Array.getElem?_eq_getElem aT;have vE:=xI hp hI WB f2
   have Sv:((l.setIfInBounds i true).toList.filter _root_.id).length=m+1:=by
    have h0:l[i]=false:=by have:=f1;simpa [Array.getD,dI] using this
    rw[Array.toList_setIfInBounds];exact hc▸bB l.toList i dI h0
   by_cases e:i=q0
   ·subst e
    have AL:ops[i]=o:=Option.some.inj (WB.symm.trans ho);refine U a1 w1 _ ⟨hI.sz,fun d v hl=>?_⟩ hI.Bf hI.fr hI.cU fun p v w2 hP=>?_
    ·rcases kv _ _ d v hl with z|z
     ·obtain⟨s,h1,h2,h3,h4⟩:=jf bm i l9 d v z
      rw[←h4];exact hI.val s h1 (vE s.i (Nat.lt_of_lt_of_le (AK s h1).1 J3) h2) d h3
     ·exact hI.old d v z
    ·obtain⟨fK,Hw,x2,nK,x3,mZ,hm3,K2⟩:=K p v w2 hP
     have R0:∀r∈l9,r.i≠i:=fun r hr=>(qm.1 (Pt r hr).1).2.1
     obtain⟨u2,MY,c2,s2⟩:=xB mZ hm3 (List.nodup_range.filter _) (fun r hr=>by
      rw[wJ];rcases List.mem_cons.1 hr with rfl|hr
      ·rintro ⟨_,z⟩;rw[bqq] at z;cases z
      ·rintro ⟨_,z⟩;rw[(qm.1 (Pt r hr).1).2.2] at z;cases z) (fun r hr s hs kY=>by
      rcases List.mem_cons.1 hr with rfl|hr<;>rcases List.mem_cons.1 hs with rfl|hs
      ·rfl
      ·exact absurd kY.symm (R0 s hs)
      ·exact absurd kY (R0 r hr)
      ·exact u1 r hr s hs kY)
     have LJ:∀s∈l9,s∈nK:=fun s hs=>MY s (List.mem_cons_of_mem _ hs)
     have N4:∀r∈nK,r.i<q∧ops[r.i]? =some r.o:=fun r hr=>by
      rcases s2 r hr with z|⟨z1,z2⟩
      ·rcases List.mem_cons.1 z with rfl|z
       ·exact⟨Cm,ho⟩
       ·exact AK r z
      ·exact⟨(wJ.1 z1).1,z2.op⟩
     refine EC (q0:=i) (w:=w2) (Z:=Z) (F p) (hB p) hk hp nE hN qz u2 N4 Cm (fun r hr aN=>?_) (fun j hj=>?_) fK (fun l' a' w' jU aB=>K2 a' w' ⟨jU.sz,fun d u hl=>?_⟩ jU.Bf jU.fr jU.cU) fuel t' _ _ w2 ?_ (by rw[aM _ dI,if_pos rfl]) ⟨m+1,by omega,Sv⟩
     ·rcases s2 r hr with z|⟨z1,z2⟩
      ·rcases List.mem_cons.1 z with rfl|z
       ·exact absurd rfl aN
       ·exact(Pt r z).2.mono LJ
      ·exact z2
     ·by_cases ej:j=i
      ·exact⟨_,MY _ (List.mem_cons_self ..),ej.symm⟩
      ·cases hz:iB bm j i with
       |false=>obtain⟨r,hr,e⟩:=c1 j (qm.2 ⟨hj,ej,hz⟩);exact⟨r,LJ r hr,e⟩
       |true=>exact c2 j (wJ.2 ⟨hj,hz⟩)
     ·rcases mj nK E0 d u hl with ⟨s,h1,h2,h3⟩|z
      ·rw[←h3];exact jU.val s h1 (aB s.i (N4 s h1).1) d h2
      ·exact jU.old d u z
     ·refine⟨by simp[hI.size],fun j hj bP=>?_,fun i' j h1 h2 h3 h4=>?_,?_,by rw[put_defers];exact hI.Bf,fun s hs hd d gV=>?_,fun d u hl=>?_,Fr.refl _ _,rfl,Hw⟩
      ·rw[aM _ dI,if_neg (by omega)];exact hI.late j hj bP
      ·rw[aM _ dI] at h1 ⊢
       by_cases e:j=i
       ·rw[if_pos e]
       ·rw[if_neg e]
        by_cases e':i'=i
        ·subst e';exact vE j h3 h4
        ·rw[if_neg e'] at h1;exact hI.down i' j h1 h2 h3 h4
      ·cases hd:o.dst with
       |none=>simp[Act.put];exact hI.sz
       |some d=>simp[Act.put];exact hI.sz
      ·rw[aM _ dI] at hd
       by_cases es:s.i=i
       ·have hsf:s=⟨i,o,[],x0,v,x0⟩:=u2 s hs _ (MY _ (List.mem_cons_self ..)) es
        subst hsf;have Sr:o.dst=some d:=gV;rw[Sr];simp only[Act.put];rw[Array.getElem?_setIfInBounds_self,if_pos (by rw[hI.sz];exact hN d (List.mem_filterMap.2 ⟨i,List.mem_range.2 Cm,by rw[ho];exact Sr⟩))]
       ·rw[if_neg es] at hd
        rcases s2 s hs with z|⟨z1,z2⟩
        ·rcases List.mem_cons.1 z with rfl|z
         ·exact absurd rfl es
         ·have uy:=hI.val s z hd d gV
          cases nA:o.dst with
          |none=>exact uy
          |some d'=>
           have aN:d'≠d:=fun zz=>es (Mr nE (AK s z).1 Cm (by rw[(AK s z).2];exact gV) (by rw[ho];show o.dst=some d;rw[nA,zz]))
           simp only[Act.put];rw[Array.getElem?_setIfInBounds_ne aN];exact uy
        ·exfalso
         have:=hI.down s.i i hd (by have:=(N4 s hs).1;omega) aT (wJ.1 z1).2;rw[h0] at this;cases this
      ·have uy:=hI.old d u hl
       cases nA:o.dst with
       |none=>exact uy
       |some d'=>
        have aN:d'≠d:=fun z=>qz d u hl (by rw[←z];exact List.mem_filterMap.2 ⟨i,List.mem_range.2 Cm,by rw[ho];exact nA⟩)
        simp only[Act.put];rw[Array.getElem?_setIfInBounds_ne aN];exact uy
   ·have gS:iB bm i q0=false:=by
     cases hz:iB bm i q0 with
     |false=>rfl
     |true=>have:=vE q0 J2 hz;rw[h0] at this;cases this
    obtain⟨r,hr,rfl⟩:=c1 i (qm.2 ⟨jD,e,gS⟩);have ny:ops[r.i]=r.o:=Option.some.inj (WB.symm.trans (AK r hr).2);refine BJ (F p0) (hB p0) hk hp nE hN qz u1 AK hI hr (Pt r hr).2 ey (fun e he hb=>f2 e (by rw[ny];exact he) hb) _ fun a' w' jU=>ih _ _ _ _ jU ?_ ⟨m+1,by omega,Sv⟩
    rw[aM _ dI,if_neg (fun z=>e z.symm)];exact h0
 refine(F p0).step _ _ rfl fun d=>⟨_,_,_,stepG_region_draw,(F p0).idle _ _,?_,fun z v _ _=>stepG_region_draw⟩
 show Ψ p0 _ (w.at (d+1))
 refine(F p0).at' _ _ _ ?_;simp only[Region.schedule,qX,Bool.true_or,if_true,Region.linearise];refine main _ _ _ _ _ ⟨by simp,fun j _ hj=>by simp[Array.getD,hj],fun i j h1 h2=>?_,hA.sz,rfl,fun r hr hd=>?_,hA.val,Fr.refl _ _,rfl,hS⟩ (by simp[Array.getD,J2]) ⟨0,by simp,by simp⟩
 ·simp[Array.getD,h2] at h1
 ·have:r.i<ops.size:=by have:=(AK r hr).1;omega
  simp[Array.getD,this] at hd
end
end Go.Proofs.YtobagnjnbmgidaaGreatDoor
