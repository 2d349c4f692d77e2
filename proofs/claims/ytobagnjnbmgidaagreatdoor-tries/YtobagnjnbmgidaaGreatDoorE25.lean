import Derived.Test.YtobagnjnbmgidaaGreatDoorE20
set_option linter.all false
set_option maxHeartbeats 2000000
set_option maxRecDepth 100000
namespace Go.Proofs.YtobagnjnbmgidaaGreatDoor
section
open Go.Conc Go.RowKit
def ends(c:Frame):Value ⊕ Value→Frame
 |.inl v=>c.finish v
 |.inr v=>c.raise (nW v)
structure TZ(b:Frame)(f:Nat):Prop where
 k:b.kind=.normal
 f:b.fn=f
 m:b.mode=.run
 r:b.roundOf=none
theorem raise_at{b:Frame}(hm:b.mode=.run)(a:Act)(t:List Item)(ch:List PanicEntry):(b.at a t).raise ch={b.at a t with mode:=.panicking ch}:=by
 simp[Frame.raise,Frame.at,hm]
section
variable{P:Program}{main:Bool}{B B0:Nat}{Ok:Addr→Bool→Prop}{Ψ:Goroutine→World→Prop}
theorem iT{f:Nat}(fn:Func)(hf:P.funcs[f]? =some fn)(code:Code)(hb:fn.body=some code){args:Array Value}(N:Nat)(hN:args.size+(fn.ntmps-args.size)=N){cs:List Frame}{w:World}{M:List ah}(hS:Sat Ok w M)(K:∀b a B,TZ b f→b.kind=.normal→b.fn=f→a.defers=[]→St Ok B N (sG args.toList 0) M 0 a w→w.heap.size=B→Ψ (G (Frame.at b a (pc P f 0 [] [])) cs) w):Ψ (G (Frame.enter P f args .normal) cs) w:=by
 obtain⟨a,e1,e2,e3⟩:=jE (args:=args) hf hb;have e4:pc P f 0 [] []=[.code code]:=by unfold pc Jz ug;rw[hf];simp only[Option.bind_some,hb,Option.getD_some]
 rw[e1,←e4];exact K _ a _ ⟨rfl,rfl,rfl,rfl⟩ rfl rfl e3 ⟨hN▸e2,hS,rfl⟩ rfl
def HT(E:Env)(t:List Item)(f:Nat)(cap:List Value):Bool:=ow t&&(aU t).guard.isNone&&(aU t).dst.isNone&&(match (aU t).op with
 |.defer c=>(match c.callee,c.args.toList with
  |.value r,[]=>kn E r&&(match ev E r with
   |.func (.func g) fst cp=>g==f&&fst.size==0&&cp.size==cap.length
   |_=>false)
  |_,_=>false)
 |_=>false)
def CN(E:Env)(t:List Item):Array Value:=match (aU t).op with
 |.defer c=>(match c.callee with
  |.value r=>(match ev E r with
   |.func _ _ cp=>cp
   |_=>#[])
  |_=>#[])
 |_=>#[]
theorem dfz(F:aC P main (DX Ok) Ψ){b:Frame}{f:Nat}(hn:TZ b f){a:Act}{ds:List Deferred}(Ej:a.defers=ds){n:Nat}{bs:List Bool}{qs:List Nat}{N c:Nat}{E:Env}{M:List ah}{cs:List Frame}{w:World}(g:Nat)(cap:List Value)(hc:HT E (pc P f n bs qs) g cap=true)(kH:CN E (pc P f n bs qs)=cap.toArray)(hx:nL (pc P f n bs qs)=pc P f (n+1) bs qs)(S:St Ok B N E M c a w)(K:∀a',St Ok B N E M c a' w→a'.defers=ju g cap.toArray::ds→Ψ (G (b.at a' (pc P f (n+1) bs qs)) cs) w):Ψ (G (b.at a (pc P f n bs qs)) cs) w:=by
 unfold HT at hc;simp only[Bool.and_eq_true] at hc;obtain⟨⟨⟨h1,h2⟩,h3⟩,h4⟩:=hc;obtain⟨ops,i,r,kk,ht,ho,wU⟩:=eX h1
 have hg:(aU (pc P f n bs qs)).guard=none:=by
  cases AU:(aU (pc P f n bs qs)).guard with
  |none=>rfl
  |some p=>rw[AU] at h2;cases h2
 have hd:(aU (pc P f n bs qs)).dst=none:=by
  cases AU:(aU (pc P f n bs qs)).dst with
  |none=>rfl
  |some p=>rw[AU] at h3;cases h3
 rw[hx] at wU;unfold CN at kH;generalize aU (pc P f n bs qs)=o at*
 split at h4
 ·rename_i c' aQ
  split at h4
  ·rename_i rr bp Cx
   simp only[Bool.and_eq_true] at h4;obtain⟨h5,h6⟩:=h4;rw[aQ] at kH;simp only[bp] at kH
   split at h6
   ·rename_i g' fst cp dS
    simp only[Bool.and_eq_true,beq_iff_eq] at h6;obtain⟨⟨e1,e2⟩,e3⟩:=h6;rw[dS] at kH
    simp only at kH
    subst e1;have ef:fst=#[]:=Array.eq_empty_of_size_eq_zero e2;subst ef;subst kH;have W7:a.eval rr=.func (.func g') #[] cap.toArray:=by rw[S.env.eval h5];exact dS
    have xj:c'.args=#[]:=by apply Array.toList_inj.1;rw[Cx]
    rw[ht];refine F.HU ho (by simp[Region.wanted,hg]) (by rw[hn.k];decide) hn.r (ats:=c'.argTypes) (by rw[aQ];obtain⟨x1,x2,x3⟩:=c';simp only at bp xj;subst bp;subst xj;rfl) W7 ?_;rw[hd,←wU];exact K _ ⟨⟨S.env.sz,S.env.val⟩,S.au,S.sz⟩ (by simp only[Act.put];rw[Ej])
   ·cases h6
  ·cases h4
 ·cases h4
theorem Um(F:aC P main (DX Ok) Ψ){b:Frame}{a:Act}{todo:List Item}(ht:py todo=true){g:Nat}{cap:List Value}{ds:List Deferred}(hd:a.defers=ju g cap.toArray::ds)(fn:Func)(hf:P.funcs[g]? =some fn)(code:Code)(hb:fn.body=some code)(gA:(fn.name== "runtime.NumGoroutine")=false)(N:Nat)(hN:cap.length+(fn.ntmps-cap.length)=N){N0 c:Nat}{E:Env}{M:List ah}{cs:List Frame}{w:World}(S:St Ok B N0 E M c a w)(K:∀a':Act,St Ok B N (sG cap 0) M c a' w→a'.defers=[]→Ψ (G ((baseD g).at a' (pc P g 0 [] [])) ({b.at ⟨a.tmps,ds⟩ todo with mode:=.returning}::cs)) w):Ψ (G (b.at a todo) cs) w:=by
 have e4:pc P g 0 [] []=[.code code]:=by unfold pc Jz ug;rw[hf];simp only[Option.bind_some,hb,Option.getD_some]
 have cL:Ψ (G {b.at a todo with mode:=.returning} cs) w:=by
  refine F.I7 hd hf gA hb ?_;rw[←e4];refine K _ ⟨⟨by simp;omega,fun n v hl=>?_⟩,S.au,S.sz⟩ rfl;obtain⟨_,h2⟩:=mL _ 0 n v hl;simp only[Nat.sub_zero] at h2;obtain⟨h3,_⟩:=List.getElem?_eq_some_iff.1 h2;rw[Array.getElem?_append_left (by simpa using h3)];simpa using h2
 have:todo=[]∨∃l,todo=.code .ret::l:=by
  unfold py at ht
  split at ht
  ·exact .inl rfl
  ·exact .inr ⟨_,rfl⟩
  ·cases ht
 rcases this with rfl|⟨l,rfl⟩
 ·exact F.ctl (fun _=>stepG_end) cL
 ·exact F.ctl (fun _=>stepG_ret') cL
theorem Zg(F:aC P main (DX Ok) Ψ){b:Frame}{a:Act}{todo:List Item}{ch:List PanicEntry}{g:Nat}{cap:List Value}{ds:List Deferred}(hd:a.defers=ju g cap.toArray::ds)(fn:Func)(hf:P.funcs[g]? =some fn)(code:Code)(hb:fn.body=some code)(gA:(fn.name== "runtime.NumGoroutine")=false)(N:Nat)(hN:cap.length+(fn.ntmps-cap.length)=N){M:List ah}{cs:List Frame}{w:World}(hS:Sat Ok w M)(K:∀(a':Act) B,St Ok B N (sG cap 0) M 0 a' w→a'.defers=[]→w.heap.size=B→Ψ (G ((baseD g).at a' (pc P g 0 [] [])) ({b.at ⟨a.tmps,ds⟩ todo with mode:=.panicking ch}::cs)) w):Ψ (G {b.at a todo with mode:=.panicking ch} cs) w:=by
 have e4:pc P g 0 [] []=[.code code]:=by unfold pc Jz ug;rw[hf];simp only[Option.bind_some,hb,Option.getD_some]
 refine F.I6 hd hf gA hb ?_;rw[←e4];refine K _ _ ⟨⟨by simp;omega,fun n v hl=>?_⟩,hS,rfl⟩ rfl rfl;obtain⟨_,h2⟩:=mL _ 0 n v hl;simp only[Nat.sub_zero] at h2;obtain⟨h3,_⟩:=List.getElem?_eq_some_iff.1 h2;rw[Array.getElem?_append_left (by simpa using h3)];simpa using h2
def recAt(t:List Item)(d:Nat):Bool:=ow t&&(aU t).guard.isNone&&(match (aU t).dst with|some d'=>d'==d|none=>false)&&(match (aU t).op with
 |.call c=>(match c.callee,c.args.toList with
  |.builtin .recover,[]=>true
  |_,_=>false)
 |_=>false)
theorem yH{t:List Item}{d:Nat}(h:recAt t d=true):∃ops i r k ats,t=.inRegion ops (i::r)::k∧ops[i]? =some (aU t)∧nL t=.inRegion ops r::k∧(aU t).guard=none∧(aU t).dst=some d∧(aU t).op=.call {callee:=.builtin .recover,args:=#[],argTypes:=ats}:=by
 unfold recAt at h;simp only[Bool.and_eq_true] at h;obtain⟨⟨⟨h1,h2⟩,h3⟩,h4⟩:=h;obtain⟨ops,i,r,kk,ht,ho,wU⟩:=eX h1;refine⟨ops,i,r,kk,?_⟩;generalize aU t=o at*
 split at h4
 ·rename_i c' aQ
  split at h4
  ·rename_i bp Cx
   obtain⟨x1,x2,x3⟩:=c'
   simp only at bp Cx
   have xj:x2=#[]:=by apply Array.toList_inj.1;rw[Cx]
   refine⟨x3,ht,ho,wU,?_,?_,by rw[aQ,bp,xj]⟩
   ·cases AU:o.guard with
    |none=>rfl
    |some p=>rw[AU] at h2;cases h2
   ·split at h3
    ·rename_i d' oD;rw[oD];simp at h3;rw[h3]
    ·cases h3
  ·cases h4
 ·cases h4
theorem Un(F:aC P main (DX Ok) Ψ){g n:Nat}{a:Act}{bs:List Bool}{qs:List Nat}{N c:Nat}{E:Env}{M:List ah}{cf:Frame}{cs:List Frame}{w:World}(d:Nat)(hc:recAt (pc P g n bs qs) d=true)(hx:nL (pc P g n bs qs)=pc P g (n+1) bs qs)(hd:d<N)(hm:cf.mode=.returning)(S:St Ok B N E M c a w)(K:∀a',St Ok B N ((d,.nilIface)::E) M c a' w→a'.defers=a.defers→Ψ (G ((baseD g).at a' (pc P g (n+1) bs qs)) (cf::cs)) w):Ψ (G ((baseD g).at a (pc P g n bs qs)) (cf::cs)) w:=by
 obtain⟨ops,i,r,k,ats,ht,ho,wU,hg,iE,aQ⟩:=yH hc;rw[hx] at wU;generalize aU (pc P g n bs qs)=o at*;rw[ht];refine F.Ag ho (by simp[Region.wanted,hg]) rfl rfl aQ hm ?_;rw[←wU,iE];exact K _ ⟨S.env.put hd,S.au,S.sz⟩ (put_defers _ _ _)
theorem Zi(F:aC P main (DX Ok) Ψ){g n:Nat}{a:Act}{bs:List Bool}{qs:List Nat}{N c:Nat}{E:Env}{M:List ah}{cf:Frame}{cs:List Frame}{w:World}{v:Value}(d:Nat)(hc:recAt (pc P g n bs qs) d=true)(hx:nL (pc P g n bs qs)=pc P g (n+1) bs qs)(hd:d<N)(hm:cf.mode=.panicking (nW v))(S:St Ok B N E M c a w)(K:∀a',St Ok B N ((d,v)::E) M c a' w→a'.defers=a.defers→Ψ (G ((baseD g).at a' (pc P g (n+1) bs qs)) ({cf with mode:=.panicking (qJ v)}::cs)) w):Ψ (G ((baseD g).at a (pc P g n bs qs)) (cf::cs)) w:=by
 obtain⟨ops,i,r,k,ats,ht,ho,wU,hg,iE,aQ⟩:=yH hc;rw[hx] at wU;generalize aU (pc P g n bs qs)=o at*;rw[ht];refine F.recover ho (by simp[Region.wanted,hg]) rfl rfl aQ hm ?_;rw[←wU,iE];exact K _ ⟨S.env.put hd,S.au,S.sz⟩ (put_defers _ _ _)
theorem FL(F:aC P main (DX Ok) Ψ){b:Frame}{a:Act}{todo:List Item}(ht:py todo=true){cs:List Frame}{w:World}(h:Ψ (G {b.at a todo with mode:=.returning} cs) w):Ψ (G (b.at a todo) cs) w:=by
 have:todo=[]∨∃l,todo=.code .ret::l:=by
  unfold py at ht
  split at ht
  ·exact .inl rfl
  ·exact .inr ⟨_,rfl⟩
  ·cases ht
 rcases this with rfl|⟨l,rfl⟩
 ·exact F.ctl (fun _=>stepG_end) h
 ·exact F.ctl (fun _=>stepG_ret') h
theorem U7(F:aC P main (DX Ok) Ψ){g:Nat}{a:Act}{todo:List Item}(ht:py todo=true)(hd:a.defers=[])(fn:Func)(hf:P.funcs[g]? =some fn)(hr:fn.results=#[]){b:Frame}{a':Act}{todo':List Item}{cs:List Frame}{w:World}(h:Ψ (G {b.at a' todo' with mode:=.returning} cs) w):Ψ (G ((baseD g).at a todo) ({b.at a' todo' with mode:=.returning}::cs)) w:=
 FL F ht (F.leaveD rfl hd hf (resultsC_none hr _) rfl h)
theorem HQ(F:aC P main (DX Ok) Ψ){g:Nat}{a:Act}{todo:List Item}(ht:py todo=true)(hd:a.defers=[])(fn:Func)(hf:P.funcs[g]? =some fn)(hr:fn.results=#[]){b:Frame}{a':Act}{todo':List Item}{v:Value}{cs:List Frame}{w:World}(h:Ψ (G {b.at a' todo' with mode:=.returning} cs) w):Ψ (G ((baseD g).at a todo) ({b.at a' todo' with mode:=.panicking (qJ v)}::cs)) w:=
 FL F ht (F.ND rfl hd hf (resultsC_none hr _) rfl h)
theorem Pu(F:aC P main (DX Ok) Ψ){f N:Nat}{E:Env}{M:List ah}{b:Frame}{a:Act}{cf:Frame}{cs:List Frame}{w:World}(hA:aO E N a)(hS:Sat Ok w M)(af:b.kind=.normal)(aJ:b.fn=f)(hd:a.defers=[])(hs:List Hint)(v:Value)(h:(l8 P ⟨f,N,[],E⟩ ⟨hs,M,0,[],[]⟩).map (fun p=>(p.1,p.2.aZ))=some (v,[]))(hq:(l8 P ⟨f,N,[],E⟩ ⟨hs,M,0,[],[]⟩).map (fun p=>p.2.eqs.map Prod.fst)=(l8 P ⟨f,N,[],E⟩ ⟨hs,M,0,[],[]⟩).map (fun p=>p.2.eqs.map Prod.snd))(K:Ψ (G (cf.finish v) cs) w){todo':List Item}:Ψ (G {b.at a todo' with mode:=.returning} (cf::cs)) w:=by
 cases hr:l8 P ⟨f,N,[],E⟩ ⟨hs,M,0,[],[]⟩ with
 |none=>rw[hr] at h;cases h
 |some p=>
  obtain⟨v',m'⟩:=p;rw[hr] at h hq;simp only[Option.map_some,Option.some.injEq,Prod.mk.injEq] at h hq;obtain⟨rfl,h2⟩:=h;obtain⟨fn,oO,vw,uu,J1,RG⟩:=rW hr (gd _ hq) (by rw[h2];simp) hA hS;exact F.wM af hd (by rw[aJ];exact oO) vw uu K
def Lu(E:Env)(t:List Item):Option Value:=bif ow t&&(aU t).guard.isNone then(match (aU t).op with
 |.panic r=>bif kn E r then some (ev E r) else none
 |_=>none) else none
theorem pnz(F:aC P main (DX Ok) Ψ){b:Frame}{f:Nat}(hn:TZ b f){a:Act}{n:Nat}{bs:List Bool}{qs:List Nat}{N c:Nat}{E:Env}{M:List ah}{cf:Frame}{cs:List Frame}{w:World}(t:TypeId)(x:Value)(hc:Lu E (pc P f n bs qs)=some (.iface t x))(fn:Func)(hf:P.funcs[f]? =some fn)(hd:a.defers=[])(S:St Ok B N E M c a w)(K:Ψ (G (cf.raise (nW (.iface t x))) cs) w):Ψ (G (b.at a (pc P f n bs qs)) (cf::cs)) w:=by
 unfold Lu at hc;cases hb:(ow (pc P f n bs qs)&&(aU (pc P f n bs qs)).guard.isNone) with
 |false=>rw[hb] at hc;cases hc
 |true=>
  rw[hb] at hc;simp only[cond_true] at hc;simp only[Bool.and_eq_true] at hb;obtain⟨ops,i,r,kk,ht,ho,wU⟩:=eX hb.1
  have hg:(aU (pc P f n bs qs)).guard=none:=by
   cases AU:(aU (pc P f n bs qs)).guard with
   |none=>rfl
   |some p=>rw[AU] at hb;cases hb.2
  generalize aU (pc P f n bs qs)=o at*
  split at hc
  ·rename_i rr aQ
   cases nC:kn E rr with
   |false=>rw[nC] at hc;cases hc
   |true=>
    rw[nC] at hc;simp only[cond_true,Option.some.injEq] at hc;rw[ht];exact F.panic ho (by simp[Region.wanted,hg]) hn.m aQ (by rw[S.env.eval nC];exact hc) (F.yL hd (by rw[hn.f];exact hf) K)
  ·cases hc
end
end
section
open Go.Conc Go.RowKit
theorem aL:Tryz.prog.follows .mixedOrders=true:=by kernel_rfl
def vm(P:Program)(N:Nat)(E:Env)(Z:List ah)(hs:List Hint)(ops:Array Oper)(q q0:Nat):Option (List Rec×cT):=
 bif og ops (Region.before ops) q&&(dstsOf ops q).all (fun d=>Nat.blt d N)&&Nat.blt q0 q then
  (match iQ P 0 ops (Region.before ops) (cA E (dstsOf ops q)) Z 0 (I1 (Region.before ops) q q0) [] none (X0 hs Z) with
  |some (ay,none,y)=>some (ay,y)
  |_=>none)
 else none
def mg(P:Program)(N:Nat)(E:Env)(Z:List ah)(hs pY:List Hint)(ops:Array Oper)(q q0:Nat)(v:Value):Option (List Rec×cT):=match vm P N E Z hs ops q q0,ops[q0]? with
 |some (ay,_),some o=>(match iQ P 0 ops (Region.before ops) (cA E (dstsOf ops q)) Z 0 (I2 (Region.before ops) q q0) (⟨q0,o,[],X0 hs Z,v,X0 hs Z⟩::ay) none (X0 pY Z) with
  |some (nK,none,y)=>some (nK,y)
  |_=>none)
 |_,_=>none
def K8(E:Env)(ops:Array Oper)(q q0:Nat)(live:List Nat)(r:Option (List Rec×cT)):Option (List (Option Value)×Bool):=r.map fun r=>(live.map (look (iS (Region.before ops) q0 r.1++cA E (dstsOf ops q))),s9 r.2)
def FD(E:Env)(ops:Array Oper)(q:Nat)(live:List Nat)(r:Option (List Rec×cT)):Option (List (Option Value)×Bool):=r.map fun r=>(live.map (look (lq r.1 (cA E (dstsOf ops q)))),s9 r.2)
def Ez(f:Addr×Addr→Addr)(r:Option (List Rec×cT)):List Addr:=match r with
 |some (_,y)=>y.m.eqs.map f
 |none=>[]
def Mo(P:Program)(E:Env)(ops:Array Oper)(q0 d:Nat):Option (Nat×Array Value):=match ops[q0]? with
 |some o=>bif !mo o&&o.guard.isNone&&o.op.operands.all (kn E)&&(match o.dst with|some d'=>d'==d|none=>false) then
  (match cY P (execOp (ev E) o) with
  |some (.enter f args)=>some (f,args)
  |_=>none)
  else none
 |none=>none
section
variable{P:Program}{main:Bool}{γ:Type}{Ok:γ→Addr→Bool→Prop}{Ψ:γ→Goroutine→World→Prop}{Bd:γ→Nat}
structure Yj(P:Program)(Ok:γ→Addr→Bool→Prop)(Ψ:γ→Goroutine→World→Prop)(Bd:γ→Nat)(b:Frame)(cs:List Frame)(f n:Nat)(bs:List Bool)(qs:List Nat)(q q0 N:Nat)(E:Env)(Z:List ah)(hs:List Hint)(ds:List Deferred)(cf:Frame):Prop where
 ret:∀p v w2 (pY:List Hint) (E2:Env) (M2:List ah),Bd p≤w2.heap.size→Sat (Ok p) w2 Z→Sat (Ok p) w2 M2→
  FD E (aE (pc P f n bs qs)) q (E2.map Prod.fst) (mg P N E Z hs pY (aE (pc P f n bs qs)) q q0 v)=some (E2.map (fun p=>some p.2),true)→
  Ez Prod.fst (mg P N E Z hs pY (aE (pc P f n bs qs)) q q0 v)=Ez Prod.snd (mg P N E Z hs pY (aE (pc P f n bs qs)) q q0 v)→
  (∀a2 w3 B3,St (Ok p) B3 N E2 M2 0 a2 w3→a2.defers=ds→w3.heap.size=B3→w3.heap.size=w2.heap.size→Ψ p (G (b.at a2 (pc P f (n+1) bs (qs++[q]))) cs) w3)→Ψ p (G (cf.finish v) cs) w2
 U3:∃a1 t1,cf=b.at a1 t1∧a1.defers=ds∧aO (cA E (dstsOf (aE (pc P f n bs qs)) q)) N a1
theorem bkC(F:∀p,aC P main (DX (Ok p)) (Ψ p))(qX:P.follows .mixedOrders=true)(hB:∀p (a:Addr) (wr:Bool),Bd p≤a.block→Ok p a wr){b:Frame}(hk:b.kind=.normal){f n:Nat}{bs:List Bool}{qs:List Nat}(q q0:Nat)(Z:List ah)(hs:List Hint)(E1:Env)(d g:Nat)(args:Array Value){B N c:Nat}{E:Env}{M:List ah}{p0:γ}{a:Act}{w:World}{cs:List Frame}(ht:pE (pc P f n bs qs)=true)(LN:.inRegion (aE (pc P f n bs qs)) (bM q ((aE (pc P f n bs qs)).size-q))::behind (pc P f n bs qs)=pc P f (n+1) bs (qs++[q]))(hv:K8 E (aE (pc P f n bs qs)) q q0 (E1.map Prod.fst) (vm P N E Z hs (aE (pc P f n bs qs)) q q0)=some (E1.map (fun p=>some p.2),true))(hq:Ez Prod.fst (vm P N E Z hs (aE (pc P f n bs qs)) q q0)=Ez Prod.snd (vm P N E Z hs (aE (pc P f n bs qs)) q q0))(hc:Mo P E1 (aE (pc P f n bs qs)) q0 d=some (g,args))(S:St (Ok p0) B N E M c a w)(ux:Sat (Ok p0) w Z)(ey:Bd p0≤w.heap.size)(K:∀cf w1,Sat (Ok p0) w1 M→w1.heap.size=w.heap.size→Yj P Ok Ψ Bd b cs f n bs qs q q0 N E Z hs a.defers cf→Ψ p0 (G (Frame.enter P g args .normal) (cf::cs)) w1):Ψ p0 (G (b.at a (pc P f n bs qs)) cs) w:=by
 have Wn:∃id k,pc P f n bs qs=.code (.region id (aE (pc P f n bs qs)) true)::k∧behind (pc P f n bs qs)=k:=by
  unfold pE at ht
  split at ht
  ·rename_i id ops k h;exact⟨id,k,by rw[h];rfl,by rw[h];rfl⟩
  ·cases ht
 obtain⟨id,k,e1,e2⟩:=Wn;generalize gU:aE (pc P f n bs qs)=ops at*;cases nB:vm P N E Z hs ops q q0 with
 |none=>rw[nB] at hv;cases hv
 |some rx=>
  obtain⟨l9,x1⟩:=rx;have Wu:=nB;rw[nB] at hv hq;simp only[K8,Option.map_some,Option.some.injEq,Prod.mk.injEq] at hv;have dQ:x1.m.eqs.map Prod.fst=x1.m.eqs.map Prod.snd:=hq;unfold vm at nB;obtain⟨hb,nB⟩:=az nB;simp only[Bool.and_eq_true] at hb;obtain⟨⟨RM,iE⟩,aT⟩:=hb;have Cm:q0<q:=by simpa using aT
  split at nB
  ·rename_i ay y nO
   cases nB
   have hN:∀d∈dstsOf ops q,d<N:=fun d hd=>by have:=List.all_eq_true.1 iE d hd;simpa using this
   unfold Mo at hc
   split at hc
   ·rename_i o ho
    obtain⟨qv,hc⟩:=az hc;simp only[Bool.and_eq_true,Bool.not_eq_true'] at qv;obtain⟨⟨⟨h2,h3⟩,h4⟩,h5⟩:=qv
    have hg:o.guard=none:=by
     cases AU:o.guard with
     |none=>rfl
     |some p=>rw[AU] at h3;cases h3
    split at hc
    ·rename_i f' vT Az
     cases hc
     rw[e1]
     refine Tt F qX hB (by rw[hk];decide) ho RM Cm hN (fun d v hl=>(fQ E _ d v hl).2) ⟨S.env.sz,fun d v hl=>S.env.val d v (fQ E _ d v hl).1⟩ ux ey nO (jY hv.2 dQ)
      (Post:=fun p v w2=>Bd p≤w2.heap.size∧Sat (Ok p) w2 Z∧∃(pY:List Hint)(E2:Env)(M2:List ah),Sat (Ok p) w2 M2∧FD E ops q (E2.map Prod.fst) (mg P N E Z hs pY ops q q0 v)=some (E2.map (fun p=>some p.2),true)∧Ez Prod.fst (mg P N E Z hs pY ops q q0 v)=Ez Prod.snd (mg P N E Z hs pY ops q q0 v)∧
        (∀a2 w3 B3,St (Ok p) B3 N E2 M2 0 a2 w3→a2.defers=a.defers→w3.heap.size=B3→w3.heap.size=w2.heap.size→Ψ p (G (b.at a2 (pc P f (n+1) bs (qs++[q]))) cs) w3))
      (fun a1 w1 rest dw aG gX ck dR=>?_) (fun p v w2 ⟨p1,p2,pY,E2,M2,p3,p4,p5,p6⟩=>?_)
     ·have eG:aO E1 N a1:=⟨dw.sz,fun d v hl=>dw.val d v (fY E1 _ hv.1 d v hl)⟩
      have cw:execOp a1.eval o=execOp (ev E1) o:=execOp_congr h2 fun y hy=>eG.eval (Array.all_eq_true_iff_forall_mem.1 h4 y hy)
      have Ck:=fG _ _ Az;refine(F p0).enter ho (by simp[Region.wanted,hg]) (by rw[hk];decide) (fun d=>?_) (fun d=>?_) (K _ w1 (S.au.keep gX) ck ⟨fun p v w2 pY E2 M2 r1 r2 r3 r4 r5 r6=>?_,a1,_,rfl,aG,?_⟩)
      ·rw[cw,←Sem.runT_fst (es:=#[]),Ck]
      ·unfold Sem.events;rw[cw,Ck]
      ·rw[Frame.finish_at,ho]
       rw[gU] at r4 r5;exact dR p v w2 ⟨r1,r2,pY,E2,M2,r3,r4,r5,r6⟩
      ·rw[gU]
       refine⟨dw.sz,fun d v hl=>dw.val d v ?_⟩
       have:∀(l:List Rec)(i:Nat),(∀r∈l,∀dd,r.o.dst=some dd→dd∈dstsOf ops q)→look (iS (Region.before ops) i l) d=none:=by
        intro l i dr;cases hz:look (iS (Region.before ops) i l) d with
        |none=>rfl
        |some u=>
         obtain⟨s,s1,s2,s3,s4⟩:=jf (Region.before ops) i l d u hz;exact absurd (dr s s1 d s3) (fQ E _ d v hl).2
       have EZ:∀(Ve Yo:Env),look Ve d=none→look (Ve++Yo) d=look Yo d:=by
        intro Ve Yo h0
        induction Ve with
        |nil=>rfl
        |cons x l ih=>
         obtain⟨k1,v1⟩:=x;simp only[look] at h0;cases kE:(k1==d) with
         |true=>rw[kE] at h0;cases h0
         |false=>rw[kE] at h0;simp only[List.cons_append,look,kE];exact ih h0
       rw[EZ _ _ (this _ _ ?_)]
       ·exact hl
       ·obtain⟨_,_,_,s1⟩:=xB nO (jY hv.2 dQ) (List.nodup_range.filter _) (by simp) (by simp)
        intro r hr dd gV;obtain⟨z1,z2⟩:=(s1 r hr).resolve_left (by simp);exact List.mem_filterMap.2 ⟨r.i,List.mem_range.2 (qm.1 z1).1,by rw[z2.op];exact gV⟩
     ·refine⟨p1,p2,?_⟩
      cases AF:mg P N E Z hs pY ops q q0 v with
      |none=>rw[AF] at p4;cases p4
      |some r2=>
       obtain⟨nK,x3⟩:=r2;rw[AF] at p4 p5;simp only[FD,Option.map_some,Option.some.injEq,Prod.mk.injEq] at p4;have p5':x3.m.eqs.map Prod.fst=x3.m.eqs.map Prod.snd:=p5;unfold mg at AF;rw[Wu,ho] at AF
       simp only at AF
       split at AF
       ·rename_i r2 y2 mZ
        cases AF
        refine⟨X0 pY Z,nK,x3,mZ,jY p4.2 p5',fun a2 w3 eG aW tP eu=>?_⟩;rw[←e2,LN];exact p6 a2 w3 w3.heap.size ⟨⟨eG.sz,fun d v hl=>eG.val d v (fY E2 _ p4.1 d v hl)⟩,p3.keep tP,rfl⟩ aW rfl eu
       ·cases AF
    ·cases hc
   ·cases hc
  ·cases nB
end
section
variable{P:Program}{main:Bool}{B B0:Nat}{Ok:Addr→Bool→Prop}{Ψ:Goroutine→World→Prop}
theorem EL(F:aC P main (DX Ok) Ψ)(qX:P.follows .mixedOrders=true)(hB:HB B0 Ok)(hle:B0≤B){g:Nat}{a:Act}{ds:List Deferred}(hd:a.defers=ds){f n0:Nat}{dG:List Bool}{dD:List Nat}(n:Nat)(hs:List Hint)(bs:List (Bool×Bool))(qs:List Nat)(E':Env)(ed:List ah→List ah)(c':Nat)(n':Nat)(vQ:List Bool)(nu:List Nat){N:Nat}{E:Env}{M:List ah}{c:Nat}(dB:List (Bool×Bool))(fI:List (Int×Nat))(aZ:List (Nat×Nat)){cs:List Frame}{w:World}(h:fin c (E'.map Prod.fst) (cE P B n ⟨[⟨f,N,pc P f n0 dG dD,E⟩],⟨hs,M,c,[],[]⟩,bs,[],[]⟩ qs)=some (N,pc P f n' vQ nu,E'.map (fun p=>some p.2),ed M,c',dB,fI,aZ))(hq:ON (cE P B n ⟨[⟨f,N,pc P f n0 dG dD,E⟩],⟨hs,M,c,[],[]⟩,bs,[],[]⟩ qs)=OM (cE P B n ⟨[⟨f,N,pc P f n0 dG dD,E⟩],⟨hs,M,c,[],[]⟩,bs,[],[]⟩ qs))(p7:∀p∈dB,p.1=p.2)(uT:∀p∈fI,0≤p.1∧p.1<(p.2:Int))(rO:∀p∈aZ,p.1<p.2)(S:St Ok B N E M c a w)(K:∀a' w',St Ok B N E' (ed M) c' a' w'→a'.defers=ds→w'.heap.size=B+c'→w.heap.size≤w'.heap.size→Fr (Wr M) w w'→Ψ (G ((baseD g).at a' (pc P f n' vQ nu)) cs) w'):Ψ (G ((baseD g).at a (pc P f n0 dG dD)) cs) w:=
 blk F qX (fun a wr z=>hB a wr (Nat.le_trans hle z)) (by show CallKind.deferred≠.early;decide) n f hs bs qs c E' (ed M) c' _ dB fI aZ h hq p7 uT rO S fun a' w' S' oD fr _=>K a' w' S' (oD.trans hd) S'.sz fr.size fr
theorem cld(F:aC P main (DX Ok) Ψ){gg:Nat}{a:Act}{ds:List Deferred}(Ej:a.defers=ds){f n:Nat}{bs:List Bool}{qs:List Nat}{N c:Nat}{E:Env}{M:List ah}{cs:List Frame}{w:World}(d h:Nat)(args:Array Value)(hc:mH P E (pc P f n bs qs) d=some (h,args))(hn:nL (pc P f n bs qs)=pc P f (n+1) bs qs)(hd:d<N)(S:St Ok B N E M c a w)(K:∀cf,Yk P Ok Ψ (baseD gg) cs f (n+1) bs qs N d E ds cf→Ψ (G (Frame.enter P h args .normal) (cf::cs)) w):Ψ (G ((baseD gg).at a (pc P f n bs qs)) cs) w:=by
 unfold mH at hc;obtain⟨hb,hc⟩:=az hc;simp only[Bool.and_eq_true,Bool.not_eq_true'] at hb;obtain⟨⟨⟨⟨h1,h2⟩,h3⟩,h4⟩,h5⟩:=hb;obtain⟨ops,i,r,kk,ht,ho,wU⟩:=eX h1
 split at hc
 ·rename_i f' vT hq
  cases hc
  have hg:=xz h3 S.env ht
  have iE:(aU (pc P f n bs qs)).dst=some d:=by
   split at h5
   ·rename_i d' oD;rw[oD];simp at h5;rw[h5]
   ·cases h5
  have cw:execOp a.eval (aU (pc P f n bs qs))=execOp (ev E) (aU (pc P f n bs qs)):=execOp_congr h2 fun y hy=>S.env.eval (Array.all_eq_true_iff_forall_mem.1 h4 y hy)
  have dQ:=fG _ _ hq
  have cL:∀v,((baseD gg).at a (.inRegion ops (i::r)::kk)).finish v=(baseD gg).at (a.put (some d) v) (pc P f (n+1) bs qs):=fun v=>by
   rw[Frame.finish_at,ho,←hn,wU];simp only[Option.bind_some,iE]
  generalize aU (pc P f n bs qs)=o at*;rw[ht];refine F.enter (f:=h) (args:=args) ho hg (by show CallKind.deferred≠.early;decide) (fun d=>?_) (fun d=>?_) (K _ fun v w' M' hS KK=>?_)
  ·rw[cw,←Sem.runT_fst (es:=#[]),dQ]
  ·unfold Sem.events;rw[cw,dQ]
  ·rw[cL];exact KK _ _ ⟨S.env.put hd,hS,rfl⟩ ((put_defers _ _ _).trans Ej) rfl
 ·cases hc
structure Yi(P:Program)(b:Frame)(cs:List Frame)(f n:Nat)(bs:List Bool)(qs:List Nat)(N d:Nat)(E:Env)(ds:List Deferred)(cf:Frame):Prop where
 ret:∀(Ok:Addr→Bool→Prop)(Ψ:Goroutine→World→Prop) v w' M,Sat Ok w' M→(∀a' B',St Ok B' N ((d,v)::E) M 0 a' w'→a'.defers=ds→w'.heap.size=B'→Ψ (G (b.at a' (pc P f n bs qs)) cs) w')→Ψ (G (cf.finish v) cs) w'
 U3:∃a1 t1,cf=b.at a1 t1∧a1.defers=ds∧aO E N a1
theorem OZ(F:aC P main (DX Ok) Ψ){b:Frame}(hk:b.kind=.normal){a:Act}{ds:List Deferred}(Ej:a.defers=ds){f n:Nat}{bs:List Bool}{qs:List Nat}{N c:Nat}{E:Env}{M:List ah}{cs:List Frame}{w:World}(d h:Nat)(args:Array Value)(hc:mH P E (pc P f n bs qs) d=some (h,args))(hn:nL (pc P f n bs qs)=pc P f (n+1) bs qs)(hd:d<N)(S:St Ok B N E M c a w)(K:∀cf,Yi P b cs f (n+1) bs qs N d E ds cf→Ψ (G (Frame.enter P h args .normal) (cf::cs)) w):Ψ (G (b.at a (pc P f n bs qs)) cs) w:=by
 unfold mH at hc;obtain⟨hb,hc⟩:=az hc;simp only[Bool.and_eq_true,Bool.not_eq_true'] at hb;obtain⟨⟨⟨⟨h1,h2⟩,h3⟩,h4⟩,h5⟩:=hb;obtain⟨ops,i,r,kk,ht,ho,wU⟩:=eX h1
 split at hc
 ·rename_i f' vT hq
  cases hc
  have hg:=xz h3 S.env ht
  have iE:(aU (pc P f n bs qs)).dst=some d:=by
   split at h5
   ·rename_i d' oD;rw[oD];simp at h5;rw[h5]
   ·cases h5
  have cw:execOp a.eval (aU (pc P f n bs qs))=execOp (ev E) (aU (pc P f n bs qs)):=execOp_congr h2 fun y hy=>S.env.eval (Array.all_eq_true_iff_forall_mem.1 h4 y hy)
  have dQ:=fG _ _ hq
  have cL:∀v,(b.at a (.inRegion ops (i::r)::kk)).finish v=b.at (a.put (some d) v) (pc P f (n+1) bs qs):=fun v=>by
   rw[Frame.finish_at,ho,←hn,wU];simp only[Option.bind_some,iE]
  generalize aU (pc P f n bs qs)=o at*;rw[ht];refine F.enter (f:=h) (args:=args) ho hg (by rw[hk];decide) (fun d=>?_) (fun d=>?_) (K _ ⟨fun TY Ψ' v w' M' hS KK=>?_,a,_,rfl,Ej,S.env⟩)
  ·rw[cw,←Sem.runT_fst (es:=#[]),dQ]
  ·unfold Sem.events;rw[cw,dQ]
  ·rw[cL];exact KK _ _ ⟨S.env.put hd,hS,rfl⟩ ((put_defers _ _ _).trans Ej) rfl
 ·cases hc
end
end
section
open Go.Conc Go.RowKit Tryz
def Hq:List Nat→List Hint
 |r::j::c::n::l=>(List.range (n % 100)).map (fun i=>(r,(j,c+i),Nat.blt n 100))++Hq l
 |_=>[]
def Bq:List Nat→List (Bool×Bool)
 |n::l=>(Nat.blt 1 n,n % 2==1)::Bq l
 |[]=>[]
def Rq{α:Type}:List (Nat×α)→List α
 |(n,a)::l=>List.replicate n a++Rq l
 |[]=>[]
theorem Mv{α:Type}{Q:α→Prop}:∀{l:List (Nat×α)},(∀p∈l,Q p.2)→∀p∈Rq l,Q p
 |[],_,p,hp=>by cases hp
 |(n,a)::l,h,p,hp=>by
  rcases List.mem_append.1 hp with hp|hp
  ·rw[(List.mem_replicate.1 hp).2];exact h (n,a) (List.mem_cons_self ..)
  ·exact Mv (fun q hq=>h q (List.mem_cons_of_mem _ hq)) p hp
section
variable{main:Bool}{B B0:Nat}{Ok:Addr→Bool→Prop}{Ψ:Goroutine→World→Prop}{b cf:Frame}{a:Act}{ds:List Deferred}{f n0:Nat}{dG:List Bool}{dD:List Nat}{N c:Nat}{E:Env}{M:List ah}{cs:List Frame}{w:World}
theorem cJ(F:aC prog main (DX Ok) Ψ)(hB:HB B0 Ok)(hk:b.kind=.normal)(hd:a.defers=ds)(S:St Ok B N E M c a w)(n:Nat)(hs bs qs:List Nat)(E':Env)(ed:List ah→List ah)(c' n':Nat)(vQ:List Bool)(nu:List Nat)(dB:List (Bool×Bool))(fI:List (Int×Nat))(aZ:List (Nat×(Nat×Nat)))(K:∀a' w',St Ok B N E' (ed M) c' a' w'→a'.defers=ds→w'.heap.size=B+c'→w.heap.size≤w'.heap.size→Fr (Wr M) w w'→Ψ (G (b.at a' (pc prog f n' vQ nu)) cs) w')(h:fin c (E'.map Prod.fst) (cE prog B n ⟨[⟨f,N,pc prog f n0 dG dD,E⟩],⟨Hq hs,M,c,[],[]⟩,Bq bs,[],[]⟩ qs)=some (N,pc prog f n' vQ nu,E'.map (fun p=>some p.2),ed M,c',dB,fI,Rq aZ):=by kernel_rfl)(hq:ON (cE prog B n ⟨[⟨f,N,pc prog f n0 dG dD,E⟩],⟨Hq hs,M,c,[],[]⟩,Bq bs,[],[]⟩ qs)=OM (cE prog B n ⟨[⟨f,N,pc prog f n0 dG dD,E⟩],⟨Hq hs,M,c,[],[]⟩,Bq bs,[],[]⟩ qs):=by kernel_rfl)(hle:B0≤B:=by omega)(p7:∀p∈dB,p.1=p.2:=by repeat' first|exact gl|refine Ms ?_ ?_|assumption|rfl|(simp;omega)|(dsimp only;omega)|simp_all)(uT:∀p∈fI,0≤p.1∧p.1<(p.2:Int):=by repeat' first|exact gl|refine Ms ?_ ?_|(dsimp only;omega))(rO:∀p∈aZ,p.2.1<p.2.2:=by repeat' first|exact gl|refine Ms ?_ ?_|(dsimp only;omega)):Ψ (G (b.at a (pc prog f n0 dG dD)) cs) w:=
 Va F aL hB hle hk hd n (Hq hs) (Bq bs) qs E' ed c' n' vQ nu dB fI (Rq aZ) h hq p7 uT (Mv rO) S K
theorem aD(F:aC prog main (DX Ok) Ψ)(hB:HB B0 Ok)(hk:b.kind=.normal)(hd:a.defers=ds)(S:St Ok B N E M c a w)(n:Nat)(hs bs qs:List Nat)(E':Env)(ed:List ah→List ah)(c' n':Nat)(vQ:List Bool)(nu:List Nat)(K:∀a' w',St Ok B N E' (ed M) c' a' w'→a'.defers=ds→w'.heap.size=B+c'→w.heap.size≤w'.heap.size→Fr (Wr M) w w'→Ψ (G (b.at a' (pc prog f n' vQ nu)) cs) w')(h:fin c (E'.map Prod.fst) (cE prog B n ⟨[⟨f,N,pc prog f n0 dG dD,E⟩],⟨Hq hs,M,c,[],[]⟩,Bq bs,[],[]⟩ qs)=some (N,pc prog f n' vQ nu,E'.map (fun p=>some p.2),ed M,c',[],[],[]):=by kernel_rfl)(hq:ON (cE prog B n ⟨[⟨f,N,pc prog f n0 dG dD,E⟩],⟨Hq hs,M,c,[],[]⟩,Bq bs,[],[]⟩ qs)=OM (cE prog B n ⟨[⟨f,N,pc prog f n0 dG dD,E⟩],⟨Hq hs,M,c,[],[]⟩,Bq bs,[],[]⟩ qs):=by kernel_rfl)(hle:B0≤B:=by omega):Ψ (G (b.at a (pc prog f n0 dG dD)) cs) w:=
 Va F aL hB hle hk hd n (Hq hs) (Bq bs) qs E' ed c' n' vQ nu [] [] [] h hq gl gl gl S K
theorem dA(F:aC prog main (DX Ok) Ψ){todo:List Item}(S:St Ok B N E M c a w)(af:b.kind=.normal)(aJ:b.fn=f)(hd:a.defers=[])(hs:List Nat)(v:Value)(K:Ψ (G (cf.finish v) cs) w)(ht:py todo=true:=by kernel_rfl)(h:(l8 prog ⟨f,N,todo,E⟩ ⟨Hq hs,M,c,[],[]⟩).map (fun p=>(p.1,p.2.aZ))=some (v,[]):=by kernel_rfl)(hq:(l8 prog ⟨f,N,todo,E⟩ ⟨Hq hs,M,c,[],[]⟩).map (fun p=>p.2.eqs.map Prod.fst)=(l8 prog ⟨f,N,todo,E⟩ ⟨Hq hs,M,c,[],[]⟩).map (fun p=>p.2.eqs.map Prod.snd):=by kernel_rfl):Ψ (G (b.at a todo) (cf::cs)) w:=
 rtn F S af aJ hd (Hq hs) v ht h hq K
theorem fT(F:aC prog main (DX Ok) Ψ)(hk:b.kind=.normal)(Ej:a.defers=ds)(S:St Ok B N E M c a w)(d h:Nat)(args:Array Value)(K:∀cf,Yk prog Ok Ψ b cs f (n0+1) dG dD N d E ds cf→Ψ (G (Frame.enter prog h args .normal) (cf::cs)) w)(hc:mH prog E (pc prog f n0 dG dD) d=some (h,args):=by kernel_rfl)(hn:nL (pc prog f n0 dG dD)=pc prog f (n0+1) dG dD:=by kernel_rfl)(hd:d<N:=by decide):Ψ (G (b.at a (pc prog f n0 dG dD)) cs) w:=
 clz F hk Ej d h args hc hn hd S K
end
end
section
open Go.Conc Go.RowKit
structure um(Ok:Addr→Bool→Prop)(w:World)(r:ah):Prop where
 val:∀j,r.has j→w.cell? (r.ad j)=some (r.get j)
 ok:∀j,r.has j→Ok (r.ad j) false∧(r.wr=true→Ok (r.ad j) true∧w.frozen? (r.ad j)=false)
 inj:r.wr=true→∀j j',r.has j→r.has j'→r.ad j=r.ad j'→j=j'
 row:∀g e n,r.row=some (g,e,n)→r.has (0,0)∧(r.ad (0,0)).block=g∧qM w g e n
def Dj(r r':ah):Prop:=r.wr=true∨r'.wr=true→∀j j',r.has j→r'.has j'→r.ad j≠r'.ad j'
theorem Dj.symm{r r':ah}(h:Dj r r'):Dj r' r:=fun hw j j' h1 h2 e=>h hw.symm j' j h2 h1 e.symm
theorem fW:∀(M:List ah)(i:Nat),nth M i=M[i]?
 |[],i=>by simp[nth]
 |x::M,0=>rfl
 |x::M,i+1=>by simp[nth,fW M i]
theorem sat_iff{Ok:Addr→Bool→Prop}{w:World}{M:List ah}:Sat Ok w M↔(∀r∈M,um Ok w r)∧M.Pairwise Dj:=by
 constructor
 ·intro h
  refine⟨fun r hr=>?_,?_⟩
  ·obtain⟨i,hi⟩:=List.getElem?_of_mem hr
   rw[←fW] at hi;exact⟨h.val i r hi,h.ok i r hi,fun hw j j' h1 h2 e=>(h.sep i r i r hi hi hw j j' h1 h2 e).2,h.row i r hi⟩
  ·rw[List.pairwise_iff_getElem]
   intro i j hi hj Iw hw a b h1 h2 e;have ei:nth M i=some M[i]:=by rw[fW,List.getElem?_eq_getElem hi]
   have ej:nth M j=some M[j]:=by rw[fW,List.getElem?_eq_getElem hj]
   rcases hw with hw|hw
   ·have:=(h.sep i _ j _ ei ej hw a b h1 h2 e).1;omega
   ·have:=(h.sep j _ i _ ej ei hw b a h2 h1 e.symm).1;omega
 ·rintro ⟨h1,h2⟩
  have hm:∀i r,nth M i=some r→r∈M:=fun i r hi=>by rw[fW] at hi;exact List.mem_of_getElem? hi
  refine⟨fun i r hi=>(h1 r (hm i r hi)).val,fun i r hi=>(h1 r (hm i r hi)).ok,fun i r i' r' hi dJ hw j j' hj bP e=>?_,fun i r hi=>(h1 r (hm i r hi)).row⟩;rw[List.pairwise_iff_getElem] at h2;have hmi:=hm i r hi;rw[fW] at hi dJ;obtain⟨l1,e1⟩:=List.getElem?_eq_some_iff.1 hi;obtain⟨l2,e2⟩:=List.getElem?_eq_some_iff.1 dJ;rcases Nat.lt_trichotomy i i' with z|z|z
  ·have:=h2 i i' l1 l2 z
   rw[e1,e2] at this;exact absurd e (this (.inl hw) j j' hj bP)
  ·subst z
   rw[hi] at dJ;cases dJ;exact⟨rfl,(h1 r hmi).inj hw j j' hj bP e⟩
  ·have:=h2 i' i l2 l1 z
   rw[e1,e2] at this;exact absurd e.symm (this (.inr hw) j' j bP hj)
theorem Sat.perm{Ok:Addr→Bool→Prop}{w:World}{M M':List ah}(h:Sat Ok w M)(hp:M.Perm M'):Sat Ok w M':=by
 rw[sat_iff] at h ⊢;exact⟨fun r hr=>h.1 r (hp.mem_iff.2 hr),(hp.pairwise_iff (fun h=>Dj.symm h)).1 h.2⟩
theorem Sat.sub{Ok:Addr→Bool→Prop}{w:World}{M M':List ah}(h:Sat Ok w M)(hp:M'.Sublist M):Sat Ok w M':=by
 rw[sat_iff] at h ⊢;exact⟨fun r hr=>h.1 r (hp.subset hr),h.2.sublist hp⟩
theorem Sat.mem{Ok:Addr→Bool→Prop}{w:World}{M:List ah}{r:ah}(h:Sat Ok w M)(hr:r∈M):um Ok w r:=(sat_iff.1 h).1 r hr
end
end Go.Proofs.YtobagnjnbmgidaaGreatDoor
