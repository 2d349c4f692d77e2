import Derived.Test.YtobagnjnbmgidaaGreatDoorE5
set_option linter.all false
set_option maxHeartbeats 2000000
set_option maxRecDepth 100000
namespace Go.Proofs.YtobagnjnbmgidaaGreatDoor
open Go.Conc Go.RowKit
def ro(M:List ah):List ah:=M.map fun r=>{r with wr:=false}
theorem Gt:∀(M:List ah)(i:Nat),nth (ro M) i=(nth M i).map fun r=>{r with wr:=false}
 |[],i=>rfl
 |x::l,0=>rfl
 |x::l,i+1=>Gt l i
theorem yD{M:List ah}{i:Nat}{r:ah}(h:nth (ro M) i=some r):∃s,nth M i=some s∧r={s with wr:=false}:=by
 rw[Gt] at h;obtain⟨s,h1,h2⟩:=map_some h;exact⟨s,h1,h2.symm⟩
section
variable{Ok:Addr→Bool→Prop}{w w':World}{M:List ah}
theorem Sat.ro(h:Sat Ok w M):Sat Ok w (ro M):=by
 refine⟨fun i r hr j hj=>?_,fun i r hr j hj=>?_,fun i r i' r' hr lD hw=>?_,fun i r hr=>?_⟩
 ·obtain⟨s,h1,rfl⟩:=yD hr;exact h.val i s h1 j hj
 ·obtain⟨s,h1,rfl⟩:=yD hr;exact⟨(h.ok i s h1 j hj).1,fun z=>by cases z⟩
 ·obtain⟨s,h1,rfl⟩:=yD hr;cases hw
 ·obtain⟨s,h1,rfl⟩:=yD hr;exact h.row i s h1
theorem uk{a:Addr}(h:Wr (ro M) a):False:=by
 obtain⟨i,r,j,h1,h2,_⟩:=h;obtain⟨s,_,rfl⟩:=yD h1;cases h2
theorem Fr.zT{W W':Addr→Prop}(h:Fr W w w')(hw:∀a,W a→W' a):Fr W' w w':=
 ⟨h.size,fun a ha hn=>h.cell a ha fun z=>hn (hw a z),fun k hk hn=>h.blk k hk fun a e z=>hn a e (hw a z),h.obj,h.row⟩
theorem Sat.keep(h:Sat Ok w M)(hf:Fr (fun _=>False) w w'):Sat Ok w' M:=by
 refine⟨fun i r hr j hj=>?_,fun i r hr j hj=>?_,h.sep,fun i r hr g e n hg=>?_⟩
 ·rw[(hf.cell _ (h.lt hr hj) id).1];exact h.val i r hr j hj
 ·rw[(hf.cell _ (h.lt hr hj) id).2];exact h.ok i r hr j hj
 ·obtain⟨z1,z2,z3⟩:=h.row i r hr g e n hg;exact⟨z1,z2,hf.row _ _ _ z3⟩
theorem Sat.grow(h:Sat Ok w M)(hf:Fr (fun _=>False) w w'){Y:List ah}{p:Nat}{R:ah}(hY:Sat Ok w' Y)(hp:nth Y p=some R)(hw:R.wr=true)(hb:∀j,R.has j→w.heap.size≤(R.ad j).block):Sat Ok w' (R::M):=by
 have h':=h.keep hf;refine⟨fun k s hk l hl=>?_,fun k s hk l hl=>?_,fun k s k' s' hk gB NS l l' hl dr he=>?_,fun k s hk g e n hg=>?_⟩
 ·rcases cK hk with ⟨k0,_,h0⟩|⟨_,rfl⟩
  ·exact h'.val k0 s h0 l hl
  ·exact hY.val p s hp l hl
 ·rcases cK hk with ⟨k0,_,h0⟩|⟨_,rfl⟩
  ·exact h'.ok k0 s h0 l hl
  ·exact hY.ok p s hp l hl
 ·rcases cK hk with ⟨k0,e0,h0⟩|⟨e1,rfl⟩
  ·rcases cK gB with ⟨k1,e3,uy⟩|⟨e2,rfl⟩
   ·have:=h'.sep k0 s k1 s' h0 uy NS l l' hl dr he;exact⟨by omega,this.2⟩
   ·have:=h.lt h0 hl;have:=hb l' dr;rw[←he] at this;omega
  ·rcases cK gB with ⟨k1,e3,uy⟩|⟨e2,rfl⟩
   ·have:=h.lt uy dr;have:=hb l hl;rw[he] at this;omega
   ·exact⟨e1.trans e2.symm,(hY.sep p _ p _ hp hp hw l l' hl dr he).2⟩
 ·rcases cK hk with ⟨k0,_,h0⟩|⟨_,rfl⟩
  ·exact h'.row k0 s h0 g e n hg
  ·exact hY.row p s hp g e n hg
end
def iB(bm:Array Nat)(i j:Nat):Bool:=(bm.getD i 0).testBit j
structure Rec where
 i:Nat
 o:Oper
 E:Env
 x:cT
 v:Value
 y:cT
def iS(bm:Array Nat)(i:Nat):List Rec→Env
 |[]=>[]
 |r::l=>bif iB bm i r.i then(match r.o.dst with|some d=>(d,r.v)::iS bm i l|none=>iS bm i l) else iS bm i l
def lq:List Rec→Env→Env
 |[],E=>E
 |r::l,E=>match r.o.dst with
  |some d=>(d,r.v)::lq l E
  |none=>lq l E
def lU(x:cT)(M:List ah)(c:Nat):cT:={x with m:={x.m with M:=M,c:=c}}
def iQ(P:Program)(B:Nat)(ops:Array Oper)(bm:Array Nat)(E0:Env)(M0:List ah)(c0:Nat):List Nat→List Rec→Option (Nat×ah)→cT→Option (List Rec×Option (Nat×ah)×cT)
 |[],acc,al,x=>some (acc,al,x)
 |i::is,acc,al,x=>match ops[i]? with
  |none=>none
  |some o=>
   let E:=iS bm i acc++E0
   match al with
   |some (p,R)=>
    bif iB bm i p then
     (match xU P B ops E o (lU x (ro (R::M0)) (c0+1)) with
     |some (v,y)=>bif y.m.c==c0+1 then iQ P B ops bm E0 M0 c0 is (⟨i,o,E,lU x (ro (R::M0)) (c0+1),v,y⟩::acc) al y else none
     |none=>none)
    else
     (match xU P B ops E o (lU x (ro M0) c0) with
     |some (v,y)=>bif y.m.c==c0 then iQ P B ops bm E0 M0 c0 is (⟨i,o,E,lU x (ro M0) c0,v,y⟩::acc) al y else none
     |none=>none)
   |none=>match xU P B ops E o (lU x (ro M0) c0) with
    |some (v,y)=>bif y.m.c==c0 then iQ P B ops bm E0 M0 c0 is (⟨i,o,E,lU x (ro M0) c0,v,y⟩::acc) none y
     else bif y.m.c==c0+1 then(match nth y.m.M 0 with
      |some R=>bif R.wr then iQ P B ops bm E0 M0 c0 is (⟨i,o,E,lU x (ro M0) c0,v,y⟩::acc) (some (i,R)) y else none
      |none=>none) else none
    |none=>none
def cA(E:Env)(ds:List Nat):Env:=E.filter fun p=>!ds.contains p.1
def dstsOf(ops:Array Oper)(q:Nat):List Nat:=(List.range q).filterMap fun i=>(ops[i]?).bind (·.dst)
def iN(ops:Array Oper)(q:Nat):Bool:=(List.range q).all fun i=>(List.range q).all fun j=>i==j||(match (ops[i]?).bind (·.dst),(ops[j]?).bind (·.dst) with
 |some d,some e=>!(d==e)
 |_,_=>true)
def og(ops:Array Oper)(bm:Array Nat)(q:Nat):Bool:=
 Nat.ble q ops.size&&iN ops q&&
 (List.range ops.size).all fun i=>match ops[i]? with
   |some o=>o.after.all (fun e=>!Region.binds .any e||Nat.blt e.on i)&&
    ((List.range ops.size).all fun j=>!iB bm i j||(Nat.blt j i&&o.after.any fun e=>Region.binds .any e&&(e.on==j||iB bm e.on j)))&&
    (Nat.blt i q||(List.range i).all fun j=>iB bm i j)
   |none=>false
def bM:Nat→Nat→List Nat
 |_,0=>[]
 |q,n+1=>q::bM (q+1) n
def zp(P:Program)(B:Nat)(f:XF)(l:List XF)(x:cT)(ops:Array Oper)(q:Nat)(k:List Item):Option cT:=
 let bm:=Region.before ops
 bif og ops bm q&&(dstsOf ops q).all (fun d=>Nat.blt d f.N) then
  match iQ P B ops bm (cA f.E (dstsOf ops q)) x.m.M x.m.c (List.range q) [] none x with
  |some (ay,al,y)=>some {y with
   fs:=⟨f.f,f.N,.inRegion ops (bM q (ops.size-q))::k,lq ay (cA f.E (dstsOf ops q))⟩::l,
   m:={y.m with M:=(match al with|some (_,R)=>R::x.m.M|none=>x.m.M),c:=(match al with|some _=>x.m.c+1|none=>x.m.c)}}
  |none=>none
 else none
structure Spec(P:Program)(B:Nat)(ops:Array Oper)(bm:Array Nat)(E0:Env)(M0:List ah)(c0:Nat)(ay:List Rec)(al:Option (Nat×ah))(xf:cT)(r:Rec):Prop where
 op:ops[r.i]? =some r.o
 run:xU P B ops r.E r.o r.x=some (r.v,r.y)
 sub:Sub r.y xf
 env:∀d v,look r.E d=some v→(∃s∈ay,iB bm r.i s.i=true∧s.o.dst=some d∧s.v=v)∨look E0 d=some v
 mem:(r.y.m.c=r.x.m.c∧(∀p R,al=some (p,R)→r.i≠p)∧((r.x.m.M=ro M0∧r.x.m.c=c0)∨∃p R,al=some (p,R)∧iB bm r.i p=true∧r.x.m.M=ro (R::M0)∧r.x.m.c=c0+1))∨
  (r.x.m.M=ro M0∧r.x.m.c=c0∧r.y.m.c=c0+1∧∃R,al=some (r.i,R)∧nth r.y.m.M 0=some R∧R.wr=true)
theorem kv:∀(E E':Env)(d:Nat)(v:Value),look (E++E') d=some v→look E d=some v∨look E' d=some v
 |[],E',d,v,h=>.inr h
 |(k,u)::E,E',d,v,h=>by
  simp only[List.cons_append,look] at h ⊢;cases hk:(k==d) with
  |true=>rw[hk] at h;exact .inl h
  |false=>rw[hk] at h;exact kv E E' d v h
theorem jf(bm:Array Nat)(i:Nat):∀(l:List Rec)(d:Nat)(v:Value),look (iS bm i l) d=some v→∃s∈l,iB bm i s.i=true∧s.o.dst=some d∧s.v=v
 |[],d,v,h=>by cases h
 |r::l,d,v,h=>by
  have ih:=jf bm i l d v;simp only[iS] at h;cases hb:iB bm i r.i with
  |false=>rw[hb] at h;obtain⟨s,h1,h2⟩:=ih h;exact⟨s,List.mem_cons_of_mem _ h1,h2⟩
  |true=>
   rw[hb] at h;simp only[cond_true] at h;cases hd:r.o.dst with
   |none=>rw[hd] at h;obtain⟨s,h1,h2⟩:=ih h;exact⟨s,List.mem_cons_of_mem _ h1,h2⟩
   |some e=>
    rw[hd] at h;simp only[look] at h;cases he:(e==d) with
    |false=>rw[he] at h;obtain⟨s,h1,h2⟩:=ih h;exact⟨s,List.mem_cons_of_mem _ h1,h2⟩
    |true=>rw[he] at h;simp at h he;subst he;subst h;exact⟨r,List.mem_cons_self ..,hb,hd,rfl⟩
section
variable{P:Program}{B:Nat}{ops:Array Oper}{bm:Array Nat}{E0:Env}{M0:List ah}{c0:Nat}
theorem mN(x:cT)(M:List ah)(c:Nat):Sub x (lU x M c):=⟨fun _ h=>h,fun _ h=>h,fun _ h=>h,fun _ h=>h⟩
theorem iy:∀(is:List Nat)(acc:List Rec)(al:Option (Nat×ah))(x:cT)(ay:List Rec)(zy:Option (Nat×ah))(xf:cT),iQ P B ops bm E0 M0 c0 is acc al x=some (ay,zy,xf)→
 is.Nodup→(∀r∈acc,r.i∉is)→(∀p R,al=some (p,R)→p∉is)→(∀r∈acc,∀s∈acc,r.i=s.i→r=s)→
 (∀r∈ay,∀s∈ay,r.i=s.i→r=s)∧(∀r∈acc,r∈ay)∧Sub x xf∧(∀p R,al=some (p,R)→zy=some (p,R))∧(∀p R,zy=some (p,R)→al=some (p,R)∨p∈is)∧(∀i∈is,∃r∈ay,r.i=i)∧(∀r∈ay,r∈acc∨(r.i∈is∧Spec P B ops bm E0 M0 c0 ay zy xf r))
 |[],acc,al,x,ay,zy,xf,h,_,_,_,hu=>by
  simp[iQ] at h;obtain⟨rfl,rfl,rfl⟩:=h;exact⟨hu,fun _ h=>h,Sub.refl _,fun _ _ h=>h,fun _ _ h=>.inl h,fun i hi=>by simp at hi,fun r hr=>.inl hr⟩
 |i::is,acc,al,x,ay,zy,xf,h,wX,Ot,fy,hu=>by
  have LR:i∉is:=(List.nodup_cons.1 wX).1;have N6:=(List.nodup_cons.1 wX).2;simp only[iQ] at h
  split at h
  ·cases h
  ·rename_i o ho
   have step:∀(r0:Rec)(Pb:Option (Nat×ah)),r0.i=i→r0.o=o→r0.E=iS bm i acc++E0→xU P B ops r0.E r0.o r0.x=some (r0.v,r0.y)→Sub x r0.x→iQ P B ops bm E0 M0 c0 is (r0::acc) Pb r0.y=some (ay,zy,xf)→
    (∀p R,al=some (p,R)→Pb=some (p,R))→(∀p R,Pb=some (p,R)→al=some (p,R)∨p=i)→
    (∀(hF:∀p R,Pb=some (p,R)→zy=some (p,R))(hG:∀p R,zy=some (p,R)→Pb=some (p,R)∨p∈is),(r0.y.m.c=r0.x.m.c∧(∀p R,zy=some (p,R)→r0.i≠p)∧((r0.x.m.M=ro M0∧r0.x.m.c=c0)∨∃p R,zy=some (p,R)∧iB bm r0.i p=true∧r0.x.m.M=ro (R::M0)∧r0.x.m.c=c0+1))∨
      (r0.x.m.M=ro M0∧r0.x.m.c=c0∧r0.y.m.c=c0+1∧∃R,zy=some (r0.i,R)∧nth r0.y.m.M 0=some R∧R.wr=true))→
    (∀r∈ay,∀s∈ay,r.i=s.i→r=s)∧(∀r∈acc,r∈ay)∧Sub x xf∧(∀p R,al=some (p,R)→zy=some (p,R))∧(∀p R,zy=some (p,R)→al=some (p,R)∨p∈i::is)∧(∀j∈i::is,∃r∈ay,r.i=j)∧(∀r∈ay,r∈acc∨(r.i∈i::is∧Spec P B ops bm E0 M0 c0 ay zy xf r)):=by
    intro r0 Pb e1 e2 e3 e4 e5 e6 e7 e8 e9
    obtain⟨g0,g1,g2,g3,g4,g5,g6⟩:=iy is (r0::acc) Pb r0.y ay zy xf e6 N6 (fun r hr=>by
     rcases List.mem_cons.1 hr with rfl|hr
     ·rw[e1];exact LR
     ·exact fun z=>Ot r hr (List.mem_cons_of_mem _ z)) (fun p R hp=>by
     rcases e8 p R hp with z|z
     ·exact fun y=>fy p R z (List.mem_cons_of_mem _ y)
     ·rw[z];exact LR) (fun r hr s hs e=>by
     rcases List.mem_cons.1 hr with h1|h1
     ·rcases List.mem_cons.1 hs with h2|h2
      ·rw[h1,h2]
      ·exact absurd (by rw[←e,h1,e1];exact List.mem_cons_self ..) (Ot s h2)
     ·rcases List.mem_cons.1 hs with h2|h2
      ·exact absurd (by rw[e,h2,e1];exact List.mem_cons_self ..) (Ot r h1)
      ·exact hu r h1 s h2 e)
    have NV:Spec P B ops bm E0 M0 c0 ay zy xf r0:=by
     refine⟨by rw[e1,e2];exact ho,e4,g2,fun d v hl=>?_,e9 g3 g4⟩;rw[e3] at hl;rcases kv _ _ _ _ hl with z|z
     ·obtain⟨s,s1,s2,s3,s4⟩:=jf bm i acc d v z
      exact .inl ⟨s,g1 s (List.mem_cons_of_mem _ s1),by rw[e1];exact s2,s3,s4⟩
     ·exact .inr z
    refine⟨g0,fun r hr=>g1 r (List.mem_cons_of_mem _ hr),(e5.trans (JB e4)).trans g2,fun p R hp=>g3 p R (e7 p R hp),fun p R hp=>?_,fun j hj=>?_,fun r hr=>?_⟩
    ·rcases g4 p R hp with z|z
     ·rcases e8 p R z with y|y
      ·exact .inl y
      ·exact .inr (by rw[y];exact List.mem_cons_self ..)
     ·exact .inr (List.mem_cons_of_mem _ z)
    ·rcases List.mem_cons.1 hj with rfl|hj
     ·exact⟨r0,g1 r0 (List.mem_cons_self ..),e1⟩
     ·exact g5 j hj
    ·rcases g6 r hr with z|⟨z1,z2⟩
     ·rcases List.mem_cons.1 z with rfl|z
      ·exact .inr ⟨by rw[e1];exact List.mem_cons_self ..,NV⟩
      ·exact .inl z
     ·exact .inr ⟨List.mem_cons_of_mem _ z1,z2⟩
   split at h
   ·rename_i p R
    have ZH:i≠p:=fun z=>fy p R rfl (by rw[z];exact List.mem_cons_self ..)
    cases hb:iB bm i p with
    |true=>
     rw[hb] at h;simp only[cond_true] at h
     split at h
     ·rename_i v y hv
      obtain⟨hc,h⟩:=az h;refine step ⟨i,o,_,_,v,y⟩ (some (p,R)) rfl rfl rfl hv (mN _ _ _) h (fun _ _ h=>h) (fun _ _ h=>.inl h) fun hF hG=>?_
      refine .inl ⟨by simpa [lU] using hc,fun p' R' AG=>?_,.inr ⟨p,R,hF p R rfl,hb,rfl,rfl⟩⟩;rcases hG p' R' AG with z|z
      ·cases z;exact ZH
      ·exact fun(e:i=p')=>LR (by rw[e];exact z)
     ·cases h
    |false=>
     rw[hb] at h;simp only[cond_false] at h
     split at h
     ·rename_i v y hv
      obtain⟨hc,h⟩:=az h;refine step ⟨i,o,_,_,v,y⟩ (some (p,R)) rfl rfl rfl hv (mN _ _ _) h (fun _ _ h=>h) (fun _ _ h=>.inl h) fun hF hG=>?_
      refine .inl ⟨by simpa [lU] using hc,fun p' R' AG=>?_,.inl ⟨rfl,rfl⟩⟩;rcases hG p' R' AG with z|z
      ·cases z;exact ZH
      ·exact fun(e:i=p')=>LR (by rw[e];exact z)
     ·cases h
   ·split at h
    ·rename_i v y hv
     cases hc:(y.m.c==c0) with
     |true=>
      rw[hc] at h;simp only[cond_true] at h;refine step ⟨i,o,_,_,v,y⟩ none rfl rfl rfl hv (mN _ _ _) h (fun _ _ h=>h) (fun _ _ h=>.inl h) fun hF hG=>?_
      refine .inl ⟨by simpa [lU] using hc,fun p' R' AG=>?_,.inl ⟨rfl,rfl⟩⟩;rcases hG p' R' AG with z|z
      ·cases z
      ·exact fun(e:i=p')=>LR (by rw[e];exact z)
     |false=>
      rw[hc] at h;simp only[cond_false] at h;obtain⟨qv,h⟩:=az h
      split at h
      ·rename_i R hR
       obtain⟨hw,h⟩:=az h;refine step ⟨i,o,_,_,v,y⟩ (some (i,R)) rfl rfl rfl hv (mN _ _ _) h (fun _ _ h=>by cases h) (fun p' R' h=>by cases h;exact .inr rfl) fun hF hG=>?_
       exact .inr ⟨rfl,rfl,by simpa using qv,R,hF i R rfl,hR,hw⟩
      ·cases h
    ·cases h
end
structure qN(ops:Array Oper)(bm:Array Nat)(q:Nat):Prop where
 le:q≤ops.size
 low:∀(i:Nat)(o:Oper),ops[i]? =some o→∀e∈o.after,Region.binds .any e=true→e.on<i
 EM:∀(i:Nat)(o:Oper)(j:Nat),ops[i]? =some o→j<ops.size→iB bm i j=true→j<i∧∃e∈o.after,Region.binds .any e=true∧(e.on=j∨iB bm e.on j=true)
 chain:∀i,q≤i→i<ops.size→∀j,j<i→iB bm i j=true
theorem mU{ops:Array Oper}{bm:Array Nat}{q:Nat}(h:og ops bm q=true):qN ops bm q∧iN ops q=true:=by
 unfold og at h;simp only[Bool.and_eq_true,List.all_eq_true,List.mem_range] at h;obtain⟨⟨h1,h2⟩,h3⟩:=h
 have key:∀(i:Nat)(o:Oper),ops[i]? =some o→(o.after.all (fun e=>!Region.binds .any e||Nat.blt e.on i)=true∧(∀j,j<ops.size→(!iB bm i j||(Nat.blt j i&&o.after.any fun e=>Region.binds .any e&&(e.on==j||iB bm e.on j)))=true))∧(Nat.blt i q||(List.range i).all fun j=>iB bm i j)=true:=by
  intro i o ho
  have hi:i<ops.size:=by
   rcases Nat.lt_or_ge i ops.size with z|z
   ·exact z
   ·rw[Array.getElem?_eq_none z] at ho;cases ho
  have:=h3 i hi;rw[ho] at this
  simpa only[Bool.and_eq_true,List.all_eq_true,List.mem_range] using this
 refine⟨⟨by simpa using h1,fun i o ho e he hb=>?_,fun i o j ho hj hb=>?_,fun i hq hi j hj=>?_⟩,h2⟩
 ·have:=Array.all_eq_true_iff_forall_mem.1 (key i o ho).1.1 e he
  simpa [hb] using this
 ·have:=(key i o ho).1.2 j hj
  rw[hb] at this;simp only[Bool.not_true,Bool.false_or,Bool.and_eq_true,Array.any_eq_true] at this;obtain⟨z1,n,hn,z2,z3⟩:=this;exact⟨by simpa using z1,_,Array.getElem_mem hn,z2,by simpa using z3⟩
 ·have:=(key i _ (Array.getElem?_eq_getElem hi)).2
  have wV:Nat.blt i q=false:=by
   cases hz:Nat.blt i q with
   |false=>rfl
   |true=>have:i<q:=by simpa using hz
          omega
  rw[wV] at this;simp only[Bool.false_or,List.all_eq_true,List.mem_range] at this;exact this j hj
theorem filter_none(n:Nat):∀m,m≤n→(List.range m).filter (·==n)=[]
 |0,_=>rfl
 |m+1,h=>by
  rw[List.range_succ,List.filter_append,filter_none n m (by omega)];have:(m==n)=false:=by simp;omega
  simp[this]
theorem zi(k:Nat):∀n,k<n→(List.range n).filter (·==k)=[k]
 |0,h=>by omega
 |n+1,h=>by
  rw[List.range_succ,List.filter_append]
  by_cases e:n=k
  ·subst e;rw[filter_none n n (Nat.le_refl _)];simp
  ·rw[zi k n (by omega)]
   have:(n==k)=false:=by simpa using e
   simp[this]
theorem filter_one{p:Nat→Bool}{n k:Nat}(hk:k<n)(h:∀i,i<n→(p i=true↔i=k)):(List.range n).filter p=[k]:=by
 have h1:(List.range n).filter p=(List.range n).filter (·==k):=List.filter_congr fun i hi=>by
  have:=h i (List.mem_range.1 hi);cases hp:p i with
  |true=>simp[this.1 hp]
  |false=>cases he:(i==k) with
   |false=>rfl
   |true=>rw[this.2 (by simpa using he)] at hp;cases hp
 rw[h1];exact zi k n hk
section
variable{ops:Array Oper}{bm:Array Nat}{q:Nat}
def ready(ops:Array Oper)(l:Array Bool)(i:Nat):Bool:=!l.getD i true&&((ops[i]?).map (·.after.all fun e=>!Region.binds .any e||l.getD e.on false)).getD false
theorem cZ{l:Array Bool}{i:Nat}(hi:i<ops.size):ready ops l i=true↔l.getD i true=false∧∀e∈ops[i].after,Region.binds .any e=true→l.getD e.on false=true:=by
 unfold ready;rw[Array.getElem?_eq_getElem hi];simp only[Option.map_some,Option.getD_some,Bool.and_eq_true,Bool.not_eq_true',Array.all_eq_true_iff_forall_mem,Bool.or_eq_true]
 constructor
 ·rintro ⟨h1,h2⟩;exact⟨h1,fun e he hb=>(h2 e he).elim (fun z=>by rw[hb] at z;cases z) id⟩
 ·rintro ⟨h1,h2⟩;exact⟨h1,fun e he=>by
   cases hb:Region.binds .any e with
   |false=>exact .inl rfl
   |true=>exact .inr (h2 e he hb)⟩
theorem aR{l:Array Bool}{i:Nat}(hi:i<l.size)(d d':Bool):l.getD i d=l.getD i d':=by simp[Array.getD,hi]
theorem fH(hp:qN ops bm q):∀(n q' t fuel:Nat)(l:Array Bool),q≤q'→q'+n=ops.size→n≤fuel→l.size=ops.size→(∀j,j<q'→l.getD j true=true)→(∀j,q'≤j→j<ops.size→l.getD j true=false)→
 Region.linearise.go .any ops fuel t l []=bM q' n
 |0,q',t,fuel,l,h1,h2,h3,h4,h5,h6=>BX .any l (fun j hj=>h5 j (by omega)) fuel t
 |n+1,q',t,fuel,l,h1,h2,h3,h4,h5,h6=>by
  obtain⟨fuel,rfl⟩:∃k,fuel=k+1:=⟨fuel-1,by omega⟩;have dQ:q'<ops.size:=by omega
  have kY:((List.range ops.size).filter (ready ops l))=[q']:=filter_one dQ fun i hi=>by
   rw[cZ hi]
   constructor
   ·rintro ⟨z1,z2⟩
    rcases Nat.lt_trichotomy i q' with y|y|y
    ·rw[h5 i y] at z1;cases z1
    ·exact y
    ·exfalso
     obtain⟨_,e,he,hb,hd⟩:=hp.EM i _ q' (Array.getElem?_eq_getElem hi) dQ (hp.chain i (by omega) hi q' y);have gI:=hp.low i _ (Array.getElem?_eq_getElem hi) e he hb;have gY:=z2 e he hb;rw[aR (by omega) false true] at gY
     have aT:e.on<q':=by
      rcases Nat.lt_or_ge e.on q' with x|x
      ·exact x
      ·rw[h6 e.on x (by omega)] at gY;cases gY
     rcases hd with rfl|hd
     ·omega
     ·have:=(hp.EM e.on _ q' (Array.getElem?_eq_getElem (by omega)) dQ hd).1;omega
   ·rintro rfl
    refine⟨h6 i (Nat.le_refl _) hi,fun e he hb=>?_⟩;have gI:=hp.low i _ (Array.getElem?_eq_getElem hi) e he hb;rw[aR (by omega) false true];exact h5 _ gI
  have Wm:((List.range ops.size).filter fun i=>!l.getD i true&&((ops[i]?).map (·.after.all fun e=>!Region.binds .any e||l.getD e.on false)).getD false)=[q']:=kY;simp only[Region.linearise.go,Wm,List.length_cons,List.length_nil,Nat.zero_add,Nat.mod_one,List.getElem?_cons_zero,Nat.div_one];rw[linearise_go_acc,List.reverse_singleton,List.singleton_append,bM]
  congr 1
  have cU:(l.setIfInBounds q' true).size=ops.size:=by simp[h4]
  refine fH hp n (q'+1) t fuel _ (by omega) (by omega) (by omega) cU (fun j hj=>?_) (fun j hj bP=>?_)
  ·by_cases e:j=q'
   ·subst e;simp[Array.getD,h4,dQ]
   ·rw[Array.getD_eq_getD_getElem?,Array.getElem?_setIfInBounds_ne (fun z=>e z.symm),←Array.getD_eq_getD_getElem?];exact h5 j (by omega)
  ·rw[Array.getD_eq_getD_getElem?,Array.getElem?_setIfInBounds_ne (by omega),←Array.getD_eq_getD_getElem?];exact h6 j (by omega) bP
end
theorem fQ:∀(E:Env)(ds:List Nat)(d:Nat)(v:Value),look (cA E ds) d=some v→look E d=some v∧d∉ds
 |[],ds,d,v,h=>by cases h
 |(k,u)::E,ds,d,v,h=>by
  have ih:=fQ E ds d v;simp only[cA,List.filter_cons] at h ih
  split at h
  ·rename_i hk
   simp only[look] at h ⊢;cases he:(k==d) with
   |true=>rw[he] at h;simp at he hk;subst he;exact⟨h,hk⟩
   |false=>rw[he] at h;exact ih h
  ·rename_i hk
   obtain⟨h1,h2⟩:=ih h;refine⟨?_,h2⟩;simp only[look];cases he:(k==d) with
   |false=>exact h1
   |true=>simp at he hk;subst he;exact absurd hk h2
theorem mj:∀(l:List Rec)(E:Env)(d:Nat)(v:Value),look (lq l E) d=some v→(∃s∈l,s.o.dst=some d∧s.v=v)∨look E d=some v
 |[],E,d,v,h=>.inr h
 |r::l,E,d,v,h=>by
  have ih:=mj l E d v;simp only[lq] at h;cases hd:r.o.dst with
  |none=>rw[hd] at h;exact(ih h).imp (fun⟨s,h1,h2⟩=>⟨s,List.mem_cons_of_mem _ h1,h2⟩) id
  |some e=>
   rw[hd] at h;simp only[look] at h;cases he:(e==d) with
   |false=>rw[he] at h;exact(ih h).imp (fun⟨s,h1,h2⟩=>⟨s,List.mem_cons_of_mem _ h1,h2⟩) id
   |true=>rw[he] at h;simp at h he;subst he;subst h;exact .inl ⟨r,List.mem_cons_self ..,hd,rfl⟩
theorem Sat.tail{Ok:Addr→Bool→Prop}{w:World}{M:List ah}{R:ah}(h:Sat Ok w (R::M)):Sat Ok w M:=
 ⟨fun i r hr=>h.val (i+1) r hr,fun i r hr=>h.ok (i+1) r hr,fun i r i' r' hr lD hw j j' h1 h2 h3=>by have:=h.sep (i+1) r (i'+1) r' hr lD hw j j' h1 h2 h3;exact⟨by omega,this.2⟩,fun i r hr=>h.row (i+1) r hr⟩
section
variable{P:Program}{main:Bool}{B:Nat}{Ok:Addr→Bool→Prop}{Ψ:Goroutine→World→Prop}
structure IK(Ok:Addr→Bool→Prop)(B:Nat)(ops:Array Oper)(bm:Array Nat)(q N:Nat)(ds:List Deferred)(E0:Env)(M0:List ah)(c0:Nat)(ay:List Rec)(al:Option (Nat×ah))(w:World)(l:Array Bool)(a':Act)(w':World):Prop where
 size:l.size=ops.size
 late:∀j,q≤j→j<ops.size→l.getD j true=false
 down:∀i j,l.getD i false=true→i<ops.size→j<ops.size→iB bm i j=true→l.getD j false=true
 sz:a'.tmps.size=N
 Bf:a'.defers=ds
 val:∀r∈ay,l.getD r.i false=true→∀d,r.o.dst=some d→a'.tmps[d]? =some r.v
 old:∀d v,look E0 d=some v→a'.tmps[d]? =some v
 fr:Fr (Wr M0) w w'
 mem:(∃p R,al=some (p,R)∧l.getD p false=true∧Sat Ok w' (R::M0)∧w'.heap.size=B+c0+1∧∀j,R.has j→B+c0≤(R.ad j).block)∨((∀p R,al=some (p,R)→l.getD p false=false)∧Sat Ok w' M0∧w'.heap.size=B+c0)
theorem aM{l:Array Bool}{i j:Nat}(d:Bool)(hi:i<l.size):(l.setIfInBounds i true).getD j d=if j=i then true else l.getD j d:=by
 by_cases e:j=i
 ·subst e;simp[Array.getD,hi]
 ·rw[if_neg e,Array.getD_eq_getD_getElem?,Array.getElem?_setIfInBounds_ne (fun z=>e z.symm),←Array.getD_eq_getD_getElem?]
theorem qH(F:aC P main (DX Ok) Ψ)(hB:∀(a:Addr)(wr:Bool),B≤a.block→Ok a wr){b:Frame}(hk:b.kind≠.early){cs:List Frame}{ops:Array Oper}{bm:Array Nat}{q N:Nat}{ds:List Deferred}{E0:Env}{M0:List ah}{c0:Nat}{ay:List Rec}{al:Option (Nat×ah)}{xf:cT}{w:World}{k:List Item}(hp:qN ops bm q)(nE:iN ops q=true)(hN:∀d∈dstsOf ops q,d<N)(qz:∀d v,look E0 d=some v→d∉dstsOf ops q)(hM:oS xf)(hu:∀r∈ay,∀s∈ay,r.i=s.i→r=s)(eE:∀r∈ay,r.i<q∧Spec P B ops bm E0 M0 c0 ay al xf r)(mz:∀p R,al=some (p,R)→p<q){l:Array Bool}{a:Act}{w1:World}(hI:IK Ok B ops bm q N ds E0 M0 c0 ay al w l a w1){r:Rec}(hr:r∈ay)(wX:l.getD r.i true=false)(yX:∀e∈r.o.after,Region.binds .any e=true→l.getD e.on false=true)(rest:List Nat)(K:∀a' w',IK Ok B ops bm q N ds E0 M0 c0 ay al w (l.setIfInBounds r.i true) a' w'→Ψ (G (b.at a' (.inRegion ops rest::k)) cs) w'):Ψ (G (b.at a (.inRegion ops (r.i::rest)::k)) cs) w1:=by
 obtain⟨jD,hs⟩:=eE r hr;have gC:r.i<ops.size:=Nat.lt_of_lt_of_le jD hp.le;have dI:r.i<l.size:=by rw[hI.size];exact gC
 have N6:l.getD r.i false=false:=by rw[aR dI false true];exact wX
 have iE:∀s∈ay,∀d,s.o.dst=some d→d∈dstsOf ops q:=fun s fJ d hd=>by
  obtain⟨h1,h2⟩:=eE s fJ;exact List.mem_filterMap.2 ⟨s.i,List.mem_range.2 h1,by rw[h2.op];exact hd⟩
 have Sq:∀s∈ay,∀d,s.o.dst=some d→r.o.dst=some d→s.i=r.i:=fun s fJ d hd oD=>by
  obtain⟨h1,h2⟩:=eE s fJ;have:=List.all_eq_true.1 (List.all_eq_true.1 nE s.i (List.mem_range.2 h1)) r.i (List.mem_range.2 jD);rw[h2.op,hs.op] at this;simp only[Option.bind_some,hd,oD] at this
  simpa using this
 have bZ:∀j,j<ops.size→iB bm r.i j=true→l.getD j false=true:=fun j hj hb=>by
  obtain⟨_,e,he,h1,h2⟩:=hp.EM r.i r.o j hs.op hj hb;have hd:=yX e he h1;rcases h2 with rfl|h2
  ·exact hd
  ·have gI:=hp.low r.i r.o hs.op e he h1
   exact hI.down e.on j hd (by omega) hj h2
 have hA:aO r.E N a:=⟨hI.sz,fun d v hl=>by
  rcases hs.env d v hl with ⟨s,s1,s2,s3,s4⟩|z
  ·rw[←s4];exact hI.val s s1 (bZ s.i (Nat.lt_of_lt_of_le (eE s s1).1 hp.le) s2) d s3
  ·exact hI.old d v z⟩
 have R7:oS r.y:=hs.sub.met hM
 have core:∀w2,Fr (fun _=>False) w1 w2→((∃p R,al=some (p,R)∧(l.setIfInBounds r.i true).getD p false=true∧Sat Ok w2 (R::M0)∧w2.heap.size=B+c0+1∧∀j,R.has j→B+c0≤(R.ad j).block)∨((∀p R,al=some (p,R)→(l.setIfInBounds r.i true).getD p false=false)∧Sat Ok w2 M0∧w2.heap.size=B+c0))→
  IK Ok B ops bm q N ds E0 M0 c0 ay al w (l.setIfInBounds r.i true) (a.put r.o.dst r.v) w2:=by
  intro w2 hf bY;refine⟨by simp[hI.size],fun j hj bP=>?_,fun i j h1 h2 h3 h4=>?_,?_,by rw[put_defers];exact hI.Bf,fun s fJ hd d gV=>?_,fun d v hl=>?_,hI.fr.trans hf (fun _ z=>z.elim),bY⟩
  ·rw[aM _ dI,if_neg (by omega)];exact hI.late j hj bP
  ·rw[aM _ dI] at h1 ⊢
   by_cases e:j=r.i
   ·rw[if_pos e]
   ·rw[if_neg e]
    by_cases e':i=r.i
    ·subst e';exact bZ j h3 h4
    ·rw[if_neg e'] at h1;exact hI.down i j h1 h2 h3 h4
  ·cases hd:r.o.dst with
   |none=>simp[Act.put];exact hI.sz
   |some d=>simp[Act.put];exact hI.sz
  ·by_cases e:s.i=r.i
   ·have:=hu s fJ r hr e;subst this
    rw[gV];simp only[Act.put];rw[Array.getElem?_setIfInBounds_self,if_pos (by rw[hI.sz];exact hN d (iE _ hr d gV))]
   ·rw[aM _ dI,if_neg e] at hd
    have h0:=hI.val s fJ hd d gV;cases nA:r.o.dst with
    |none=>exact h0
    |some d'=>
     have aN:d'≠d:=fun z=>e (Sq s fJ d gV (by rw[nA,z]))
     simp only[Act.put];rw[Array.getElem?_setIfInBounds_ne aN];exact h0
  ·have h0:=hI.old d v hl
   cases nA:r.o.dst with
   |none=>exact h0
   |some d'=>
    have aN:d'≠d:=fun z=>qz d v hl (by rw[←z];exact iE _ hr d' nA)
    simp only[Act.put];rw[Array.getElem?_setIfInBounds_ne aN];exact h0
 rcases hs.mem with ⟨hc,aN,yd⟩|⟨yd,uX,qv,R,fy,hR,Z7⟩
 ·have hle:B+r.x.m.c≤w1.heap.size:=by
   rcases yd with ⟨_,z⟩|⟨p,R,h1,h2,_,z⟩
   ·rw[z];rcases hI.mem with ⟨_,_,_,_,_,y,_⟩|⟨_,_,y⟩<;>omega
   ·rw[z]
    have ZI:l.getD p false=true:=bZ p (Nat.lt_of_lt_of_le (mz p R h1) hp.le) h2;rcases hI.mem with ⟨_,_,_,_,_,y,_⟩|⟨y,_⟩
    ·omega
    ·rw[y p R h1] at ZI;cases ZI
  have GW:Sat Ok w1 r.x.m.M:=by
   rcases yd with ⟨z,_⟩|⟨p,R,h1,h2,z,zc⟩
   ·rw[z];rcases hI.mem with ⟨_,_,_,_,y,_⟩|⟨_,y,_⟩
    ·exact y.tail.ro
    ·exact y.ro
   ·rw[z];rcases hI.mem with ⟨p',R',e1,_,y,_⟩|⟨y,_,y2⟩
    ·rw[h1] at e1;cases e1;exact y.ro
    ·omega
  refine tC (B:=w1.heap.size-r.x.m.c) F (fun ad wr z=>hB ad wr (by omega)) hk hs.op (BN hs.run hc _) R7 hA ⟨GW,by omega⟩ fun w2 h1 h2 h3=>K _ _ (core w2 (h2.zT fun ad z=>?_) ?_)
  ·rcases yd with ⟨e,_⟩|⟨p,R,_,_,e,_⟩<;>(rw[e] at z;exact uk z)
  ·have hf:Fr (fun _=>False) w1 w2:=h2.zT fun ad z=>by rcases yd with ⟨e,_⟩|⟨p,R,_,_,e,_⟩<;>(rw[e] at z;exact uk z)
   have cU:w2.heap.size=w1.heap.size:=by have:=h1.sz;omega
   rcases hI.mem with ⟨p,R,e1,e2,e3,e4,e5⟩|⟨e1,e2,e3⟩
   ·exact .inl ⟨p,R,e1,by rw[aM _ dI];split;rfl;exact e2,e3.keep hf,cU.trans e4,e5⟩
   ·exact .inr ⟨fun p R z=>by rw[aM _ dI,if_neg (fun y=>aN p R z y.symm)];exact e1 p R z,e2.keep hf,cU.trans e3⟩
 ·rcases hI.mem with ⟨p,R',e1,e2,_⟩|⟨e1,e2,e3⟩
  ·rw[fy] at e1;cases e1;rw[N6] at e2;cases e2
  ·refine tC F hB hk hs.op hs.run R7 hA ⟨by rw[yd];exact e2.ro,by rw[uX];exact e3⟩ fun w2 h1 h2 h3=>?_
   have hf:Fr (fun _=>False) w1 w2:=h2.zT fun ad z=>by rw[yd] at z;exact uk z
   have lf:∀j,R.has j→w1.heap.size≤(R.ad j).block:=fun j hj=>by
    rcases h3 (R.ad j) ⟨_,R,j,hR,Z7,hj,rfl⟩ with z|z
    ·rw[yd] at z;exact(uk z).elim
    ·exact z
   exact K _ _ (core w2 hf (.inl ⟨r.i,R,fy,by rw[aM _ dI,if_pos rfl],e2.grow hf h1.au hR Z7 lf,by rw[h1.sz,qv];omega,fun j hj=>by rw[←e3];exact lf j hj⟩))
end
section
variable{P:Program}{main:Bool}{B:Nat}{Ok:Addr→Bool→Prop}{Ψ:Goroutine→World→Prop}
theorem count_le:∀(l:List Bool)(q:Nat),(∀j,q≤j→l.getD j true=false∨l.length≤j)→(l.filter id).length≤q
 |[],q,_=>by simp
 |x::l,0,h=>by
  have hx:x=false:=by
   rcases h 0 (Nat.le_refl _) with z|z
   ·simpa using z
   ·simp at z
  have:=count_le l 0 (fun j hj=>by
   rcases h (j+1) (by omega) with z|z
   ·exact .inl (by simpa using z)
   ·exact .inr (by simp at z;omega))
  subst hx;simpa using this
 |x::l,q+1,h=>by
  have:=count_le l q (fun j hj=>by
   rcases h (j+1) (by omega) with z|z
   ·exact .inl (by simpa using z)
   ·exact .inr (by simp at z;omega))
  cases x<;>simp<;>omega
theorem ED(F:aC P main (DX Ok) Ψ)(hB:∀(a:Addr)(wr:Bool),B≤a.block→Ok a wr){b:Frame}(hk:b.kind≠.early){cs:List Frame}{ops:Array Oper}{bm:Array Nat}{q N:Nat}{ds:List Deferred}{E0:Env}{M0:List ah}{c0:Nat}{ay:List Rec}{al:Option (Nat×ah)}{xf:cT}{w:World}{k:List Item}(hp:qN ops bm q)(nE:iN ops q=true)(hN:∀d∈dstsOf ops q,d<N)(qz:∀d v,look E0 d=some v→d∉dstsOf ops q)(hM:oS xf)(hu:∀r∈ay,∀s∈ay,r.i=s.i→r=s)(eE:∀r∈ay,r.i<q∧Spec P B ops bm E0 M0 c0 ay al xf r)(mz:∀p R,al=some (p,R)→p<q)(kZ:∀i,i<q→∃r∈ay,r.i=i)(K:∀l a' w',IK Ok B ops bm q N ds E0 M0 c0 ay al w l a' w'→(∀i,i<q→l.getD i false=true)→Ψ (G (b.at a' (.inRegion ops (bM q (ops.size-q))::k)) cs) w'):
 ∀(fuel t:Nat)(l:Array Bool)(a:Act)(w1:World),IK Ok B ops bm q N ds E0 M0 c0 ay al w l a w1→(∃m,m+fuel=ops.size∧(l.toList.filter id).length=m)→Ψ (G (b.at a (.inRegion ops (Region.linearise.go .any ops fuel t l [])::k)) cs) w1:=by
 intro fuel
 induction fuel with
 |zero=>
  intro t l a w1 hI ⟨m,hm,hc⟩
  have aB:∀i,i<ops.size→l.getD i true=true:=fun i hi=>by
   have Ef:l.toList.length=ops.size:=by rw[Array.length_toList];exact hI.size
   have jl:(l.toList.filter id).length=l.toList.length:=by omega
   have:=List.length_filter_eq_length_iff.1 jl;have dJ:i<l.size:=by rw[hI.size];exact hi
   have h3:=this l[i] (by simp);simp only[Array.getD,dJ,dif_pos]
   simpa using h3
  have hq:q=ops.size:=by
   rcases Nat.lt_or_ge q ops.size with z|z
   ·have h1:=aB q z;rw[hI.late q (Nat.le_refl _) z] at h1;cases h1
   ·exact Nat.le_antisymm hp.le z
  have:=K l a w1 hI (fun i hi=>by rw[aR (by rw[hI.size];omega) false true];exact aB i (by omega));rw[fH hp 0 q t 0 l (Nat.le_refl _) (by omega) (Nat.le_refl _) hI.size (fun j hj=>aB j (by omega)) (fun j h1 h2=>hI.late j h1 h2)];have e:ops.size-q=0:=by omega
  rw[e] at this;exact this
 |succ fuel ih=>
  intro t l a w1 hI ⟨m,hm,hc⟩
  by_cases aB:∀i,i<q→l.getD i false=true
  ·have hle:m≤q:=by
    rw[←hc];refine count_le _ q fun j hj=>?_
    rcases Nat.lt_or_ge j ops.size with z|z
    ·left
     have:=hI.late j hj z;rw[Array.getD_eq_getD_getElem?] at this;rw[List.getD_eq_getElem?_getD];simpa using this
    ·right;simp[hI.size];exact z
   rw[fH hp (ops.size-q) q t (fuel+1) l (Nat.le_refl _) (by have:=hp.le;omega) (by omega) hI.size (fun j hj=>by rw[aR (by rw[hI.size];have:=hp.le;omega) true false];exact aB j hj) (fun j h1 h2=>hI.late j h1 h2)];exact K l a w1 hI aB
  ·simp only[Region.linearise.go]
   generalize kY:((List.range ops.size).filter fun i=>!l.getD i true&&((ops[i]?).map (·.after.all fun e=>!Region.binds .any e||l.getD e.on false)).getD false)=rs;have jg:(List.range ops.size).filter (ready ops l)=rs:=kY;cases hi:rs[t % rs.length]? with
   |none=>
    exfalso
    have ji:rs=[]:=by
     cases rs with
     |nil=>rfl
     |cons x xs=>
      have aT:t % (x::xs).length<(x::xs).length:=Nat.mod_lt _ (by simp);rw[List.getElem?_eq_getElem aT] at hi;cases hi
    rw[ji] at jg
    apply aB
    intro i
    induction i using Nat.strongRecOn with
    |_ i GN=>
     intro jD;have gC:i<ops.size:=Nat.lt_of_lt_of_le jD hp.le;have dI:i<l.size:=by rw[hI.size];exact gC
     cases hz:l.getD i false with
     |true=>rfl
     |false=>
      exfalso
      have:ready ops l i=true:=(cZ gC).2 ⟨by rw[aR dI true false];exact hz,fun e he hb=>by
       have gI:=hp.low i _ (Array.getElem?_eq_getElem gC) e he hb;exact GN e.on gI (by omega)⟩
      have bY:i∈(List.range ops.size).filter (ready ops l):=List.mem_filter.2 ⟨List.mem_range.2 gC,this⟩;rw[jg] at bY;cases bY
   |some i=>
    have bY:i∈rs:=List.mem_of_getElem? hi;rw[←jg] at bY;obtain⟨hr,hf⟩:=List.mem_filter.1 bY;have aT:i<ops.size:=List.mem_range.1 hr;obtain⟨f1,f2⟩:=(cZ aT).1 hf;have dI:i<l.size:=by rw[hI.size];exact aT
    have jD:i<q:=by
     rcases Nat.lt_or_ge i q with z|z
     ·exact z
     ·exfalso;apply aB
      intro j hj;obtain⟨_,e,he,hb,hd⟩:=hp.EM i _ j (Array.getElem?_eq_getElem aT) (by omega) (hp.chain i z aT j (by omega));have gY:=f2 e he hb;rcases hd with rfl|hd
      ·exact gY
      ·have gI:=hp.low i _ (Array.getElem?_eq_getElem aT) e he hb
       exact hI.down e.on j gY (by omega) (by omega) hd
    simp only
    rw[linearise_go_acc,List.reverse_singleton,List.singleton_append];obtain⟨r,wT,rfl⟩:=kZ i jD;have aQ:=(eE r wT).2.op;have ny:ops[r.i]=r.o:=Option.some.inj ((Array.getElem?_eq_getElem aT).symm.trans aQ);refine qH F hB hk hp nE hN qz hM hu eE mz hI wT f1 (fun e he hb=>f2 e (by rw[ny];exact he) hb) _ fun a' w' jU=>?_
    refine ih _ _ _ _ jU ⟨m+1,by omega,?_⟩;have h0:l[r.i]=false:=by have:=f1;simpa [Array.getD,dI] using this
    rw[Array.toList_setIfInBounds];exact hc▸bB l.toList r.i dI h0
variable{b0:Frame}{nU:List Deferred}{cs0:List Frame}
theorem HR(F:aC P main (DX Ok) Ψ)(qX:P.follows .mixedOrders=true)(hB:∀(a:Addr)(wr:Bool),B≤a.block→Ok a wr)(hk:b0.kind≠.early){f:XF}{l:List XF}{x x':cT}{ops:Array Oper}{id q:Nat}{k:List Item}(h:zp P B f l x ops q k=some x')(hm:oS x'){b:Frame}{a:Act}{cs:List Frame}{w:World}(hA:aO f.E f.N a)(hR:KY b0 nU cs0 l f.f b a.defers cs)(hI:Inv Ok B w x.m)(K:xK Ok B Ψ b0 nU cs0 x.m w x'):Ψ (G (b.at a (.code (.region id ops true)::k)) cs) w:=by
 unfold zp at h
 simp only at h
 obtain⟨hc,h⟩:=az h;simp only[Bool.and_eq_true,List.all_eq_true] at hc;obtain⟨nB,hN⟩:=hc;obtain⟨hp,nE⟩:=mU nB
 split at h
 ·rename_i ay al y nO
  cases h
  obtain⟨hu,_,qt,_,fy,kZ,yS⟩:=iy (List.range q) [] none x ay al y nO List.nodup_range (by simp) (by simp) (by simp);have hM:oS y:=⟨hm.eqs,hm.aZ,hm.dB,hm.fI⟩
  have eE:∀r∈ay,r.i<q∧Spec P B ops (Region.before ops) (cA f.E (dstsOf ops q)) x.m.M x.m.c ay al y r:=fun r hr=>by
   rcases yS r hr with z|⟨z1,z2⟩
   ·cases z
   ·exact⟨List.mem_range.1 z1,z2⟩
  have mz:∀p R,al=some (p,R)→p<q:=fun p R z=>by
   rcases fy p R z with y|y
   ·cases y
   ·exact List.mem_range.1 y
  have Eo:IK Ok B ops (Region.before ops) q f.N a.defers (cA f.E (dstsOf ops q)) x.m.M x.m.c ay al w (Array.replicate ops.size false) a w:=by
   refine⟨by simp,fun j _ hj=>by simp[Array.getD,hj],fun i j h1 h2 _ _=>?_,hA.sz,rfl,fun r _ h1=>?_,fun d v hl=>hA.val d v (fQ _ _ _ _ hl).1,Fr.refl _ _,.inr ⟨fun p R _=>?_,hI.au,hI.sz⟩⟩
   ·simp[Array.getD,h2] at h1
   ·exfalso;simp only[Array.getD] at h1;split at h1<;>simp at h1
   ·simp only[Array.getD];split<;>simp
  refine F.step _ _ rfl fun d=>⟨_,_,_,stepG_region_draw,F.idle _ _,?_,fun z v _ _=>stepG_region_draw⟩
  show Ψ _ (w.at (d+1))
  refine F.at' _ _ _ ?_;simp only[Region.schedule,qX,Bool.true_or,if_true,Region.linearise];refine ED F hB (hR.late hk) hp nE (fun e he=>by simpa using hN e he) (fun e v hl=>(fQ _ _ _ _ hl).2) hM hu eE mz (fun i hi=>kZ i (List.mem_range.2 hi)) ?_ _ _ _ _ _ Eo ⟨0,by simp,by simp⟩;intro l' a' w' jU aB;refine K _ _ ⟨b,a',cs,rfl,⟨jU.sz,fun e v hl=>?_⟩,by rw[jU.Bf];exact hR⟩ ?_ jU.fr ?_
  ·rcases mj _ _ _ _ hl with ⟨s,s1,s2,s3⟩|z
   ·rw[←s3];exact jU.val s s1 (aB s.i (eE s s1).1) e s2
   ·exact jU.old e v z
  ·rcases jU.mem with ⟨p,R,e1,e2,e3,e4,e5⟩|⟨e1,e2,e3⟩
   ·rw[e1];exact⟨e3,by rw[e4];simp only;omega⟩
   ·cases pK:al with
    |none=>exact⟨e2,e3⟩
    |some pr=>
     obtain⟨p,R⟩:=pr;have:=e1 p R pK;rw[aB p (mz p R pK)] at this;cases this
  ·intro ad qy
   rcases jU.mem with ⟨p,R,e1,e2,e3,e4,e5⟩|⟨e1,e2,e3⟩
   ·rw[e1] at qy
    obtain⟨i,r,j,h1,h2,h3,h4⟩:=qy;rcases cK h1 with ⟨k0,_,h0⟩|⟨_,rfl⟩
    ·exact .inl ⟨k0,r,j,h0,h2,h3,h4⟩
    ·right;subst h4
     rw[hI.sz];exact e5 j h3
   ·cases pK:al with
    |none=>rw[pK] at qy;exact .inl qy
    |some pr=>
     obtain⟨p,R⟩:=pr;have:=e1 p R pK;rw[aB p (mz p R pK)] at this;cases this
 ·cases h
end
end Go.Proofs.YtobagnjnbmgidaaGreatDoor
