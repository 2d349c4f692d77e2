import Derived.Test.YtobagnjnbmgidaaGreatDoorE9
set_option linter.all false
set_option maxHeartbeats 2000000
set_option maxRecDepth 100000
namespace Go.Proofs.YtobagnjnbmgidaaGreatDoor
open Go.Conc Go.RowKit
def zm(P:Program)(B:Nat)(x:cT)(qs:List Nat):Option (cT×List Nat):=match nT P B x with
 |some y=>some (y,qs)
 |none=>match x.fs with
  |f::l=>match f.todo with
   |.code (.region _ ops true)::k=>match qs with
    |q::qs=>(zp P B f l x ops q k).map fun y=>(y,qs)
    |[]=>none
   |_=>none
  |[]=>none
def cE(P:Program)(B:Nat):Nat→cT→List Nat→Option (cT×List Nat)
 |0,x,qs=>some (x,qs)
 |n+1,x,qs=>match zm P B x qs with
  |some (y,qs)=>cE P B n y qs
  |none=>none
def Jz:Nat→List Bool→List Nat→List Item→List Item
 |0,_,_,t=>t
 |n+1,bs,qs,t=>match KE t with
  |some t'=>Jz n bs qs t'
  |none=>match t with
   |.code (.cond _ y z)::k=>match bs with
    |b::bs=>Jz n bs qs (.code (bif b then y else z)::k)
    |[]=>[]
   |.inRegion ops (_::r)::k=>Jz n bs qs (.inRegion ops r::k)
   |.code (.region _ ops true)::k=>match qs with
    |q::qs=>Jz n bs qs (.inRegion ops (bM q (ops.size-q))::k)
    |[]=>[]
   |_=>[]
def ug(P:Program)(f:Nat):List Item:=[.code (((P.funcs[f]?).bind (·.body)).getD .skip)]
def OJ:Nat→List ah→List ah
 |0,M=>M
 |_+1,[]=>[]
 |n+1,r::M=>{r with row:=none}::OJ n M
theorem lp:∀(n:Nat)(M:List ah)(i:Nat)(r:ah),nth (OJ n M) i=some r→∃s,nth M i=some s∧(r=s∨r={s with row:=none})
 |0,M,i,r,h=>⟨r,h,.inl rfl⟩
 |_+1,[],i,r,h=>by cases h
 |n+1,x::M,0,r,h=>by cases h;exact⟨x,rfl,.inr rfl⟩
 |n+1,x::M,i+1,r,h=>lp n M i r h
theorem Sat.fg{Ok:Addr→Bool→Prop}{w:World}{M:List ah}(h:Sat Ok w M)(n:Nat):Sat Ok w (OJ n M):=by
 refine⟨fun i r hr j hj=>?_,fun i r hr j hj=>?_,fun i r i' r' hr lD hw j j' hj bP he=>?_,fun i r hr g e m hg=>?_⟩
 ·obtain⟨s,h1,z⟩:=lp n M i r hr;rcases z with rfl|rfl<;>exact h.val i _ h1 j hj
 ·obtain⟨s,h1,z⟩:=lp n M i r hr;rcases z with rfl|rfl<;>exact h.ok i _ h1 j hj
 ·obtain⟨s,h1,z⟩:=lp n M i r hr;obtain⟨s',h2,z'⟩:=lp n M i' r' lD;rcases z with rfl|rfl<;>rcases z' with rfl|rfl<;>exact h.sep i _ i' _ h1 h2 hw j j' hj bP he
 ·obtain⟨s,h1,rfl|rfl⟩:=lp n M i r hr
  ·exact h.row i r h1 g e m hg
  ·cases hg
theorem Wr.fg{n:Nat}{M:List ah}{a:Addr}(h:Wr (OJ n M) a):Wr M a:=by
 obtain⟨k,s,j,h1,h2,h3,h4⟩:=h;obtain⟨r,h5,rfl|rfl⟩:=lp n M k s h1
 ·exact⟨k,s,j,h5,h2,h3,h4⟩
 ·exact⟨k,r,j,h5,h2,h3,h4⟩
def fin(c0:Nat)(live:List Nat)(r:Option (cT×List Nat)):Option (Nat×List Item×List (Option Value)×List ah×Nat×List (Bool×Bool)×List (Int×Nat)×List (Nat×Nat)):=match r with
 |some (x,_)=>match x.fs with
  |[f]=>some (f.N,f.todo,live.map (look f.E),OJ (x.m.c-c0) x.m.M,x.m.c,x.dB,x.fI,x.m.aZ)
  |_=>none
 |none=>none
def ON(r:Option (cT×List Nat)):List Addr:=match r with
 |some (x,_)=>x.m.eqs.map Prod.fst
 |none=>[]
def OM(r:Option (cT×List Nat)):List Addr:=match r with
 |some (x,_)=>x.m.eqs.map Prod.snd
 |none=>[]
section
variable{P:Program}{main:Bool}{B:Nat}{Ok:Addr→Bool→Prop}{Ψ:Goroutine→World→Prop}{b0:Frame}{nU:List Deferred}{cs0:List Frame}
theorem EE{f:XF}{l:List XF}{x x':cT}{ops:Array Oper}{q:Nat}{k:List Item}(h:zp P B f l x ops q k=some x'):Sub x x':=by
 unfold zp at h
 simp only at h
 obtain⟨_,h⟩:=az h
 split at h
 ·rename_i ay al y nO
  cases h
  obtain⟨_,_,qt,_⟩:=iy (List.range q) [] none x ay al y nO List.nodup_range (by simp) (by simp) (by simp);exact⟨qt.eqs,qt.aZ,qt.dB,qt.fI⟩
 ·cases h
theorem HL(F:aC P main (DX Ok) Ψ)(qX:P.follows .mixedOrders=true)(hB:∀(a:Addr)(wr:Bool),B≤a.block→Ok a wr)(hk:b0.kind≠.early){x x':cT}{qs nu:List Nat}(h:zm P B x qs=some (x',nu))(hm:oS x'){g:Goroutine}{w:World}(hg:TR b0 nU cs0 x.fs g)(hI:Inv Ok B w x.m)(K:xK Ok B Ψ b0 nU cs0 x.m w x'):Ψ g w:=by
 unfold zm at h
 split at h
 ·rename_i y hy;cases h;exact zn F hB hk hy hm hg hI K
 ·split at h
  ·rename_i f l W2
   split at h
   ·rename_i ops k ht
    split at h
    ·obtain⟨y,hy,e⟩:=map_some h
     cases e
     rw[W2] at hg;obtain⟨b,a,cs,rfl,hA,hR⟩:=hg;rw[ht];exact HR F qX hB hk hy hm hA hR hI K
    ·cases h
   ·cases h
  ·cases h
theorem Ew{x x':cT}{qs nu:List Nat}(h:zm P B x qs=some (x',nu)):Sub x x':=by
 unfold zm at h
 split at h
 ·rename_i y hy;cases h;exact vL hy
 ·split at h
  ·split at h
   ·split at h
    ·obtain⟨y,hy,e⟩:=map_some h
     cases e;exact EE hy
    ·cases h
   ·cases h
  ·cases h
theorem tW:∀(n:Nat)(x x':cT)(qs nu:List Nat),cE P B n x qs=some (x',nu)→Sub x x'
 |0,x,x',qs,nu,h=>by cases h;exact Sub.refl _
 |n+1,x,x',qs,nu,h=>by
  simp only[cE] at h
  split at h
  ·rename_i y q hy;exact(Ew hy).trans (tW n y x' _ _ h)
  ·cases h
theorem vK(F:aC P main (DX Ok) Ψ)(qX:P.follows .mixedOrders=true)(hB:∀(a:Addr)(wr:Bool),B≤a.block→Ok a wr)(hk:b0.kind≠.early):∀(n:Nat){x x':cT}{qs nu:List Nat}(h:cE P B n x qs=some (x',nu))(hm:oS x'){g:Goroutine}{w:World}(hg:TR b0 nU cs0 x.fs g)(hI:Inv Ok B w x.m)(K:xK Ok B Ψ b0 nU cs0 x.m w x'),Ψ g w
 |0,x,x',qs,nu,h,hm,g,w,hg,hI,K=>by cases h;exact K _ _ hg hI (Fr.refl _ _) (fun _ h=>.inl h)
 |n+1,x,x',qs,nu,h,hm,g,w,hg,hI,K=>by
  simp only[cE] at h
  split at h
  ·rename_i y q hy
   refine HL F qX hB hk hy ((tW n y x' _ _ h).met hm) hg hI fun g' w' qY jU Km Hu=>?_
   refine vK F qX hB hk n h hm qY jU fun g2 w2 tN Xz XD Xq=>?_
   refine K _ _ tN Xz (Km.trans XD Hu) (fun a ha=>(Xq a ha).elim (Hu a) (fun z=>.inr (Nat.le_trans Km.size z)))
  ·cases h
structure St(Ok:Addr→Bool→Prop)(B N:Nat)(E:Env)(M:List ah)(c:Nat)(a:Act)(w:World):Prop where
 env:aO E N a
 au:Sat Ok w M
 sz:w.heap.size=B+c
theorem gd:∀(l:List (Addr×Addr)),l.map Prod.fst=l.map Prod.snd→∀p∈l,p.1=p.2
 |[],_,p,hp=>by cases hp
 |x::l,h,p,hp=>by
  simp only[List.map_cons,List.cons.injEq] at h;rcases List.mem_cons.1 hp with rfl|hp
  ·exact h.1
  ·exact gd l h.2 p hp
theorem fY:∀(E' E:Env),(E'.map Prod.fst).map (look E)=E'.map (fun p=>some p.2)→∀d v,look E' d=some v→look E d=some v
 |[],E,_,d,v,h=>by cases h
 |(k,u)::E',E,he,d,v,h=>by
  simp only[List.map_cons,List.cons.injEq] at he;simp only[look] at h;cases hk:(k==d) with
  |true=>rw[hk] at h;simp at h hk;subst hk;subst h;exact he.1
  |false=>rw[hk] at h;exact fY E' E he.2 d v h
theorem blk(F:aC P main (DX Ok) Ψ)(qX:P.follows .mixedOrders=true)(hB:∀(a:Addr)(wr:Bool),B≤a.block→Ok a wr){b:Frame}(hk:b.kind≠.early)(n f:Nat)(hs:List Hint)(bs:List (Bool×Bool))(qs:List Nat)(c0:Nat)(E':Env)(M':List ah)(c':Nat)(todo':List Item){N:Nat}{todo:List Item}{E:Env}{M:List ah}{c:Nat}(dB:List (Bool×Bool))(fI:List (Int×Nat))(aZ:List (Nat×Nat)){a:Act}{cs:List Frame}{w:World}(h:fin c0 (E'.map Prod.fst) (cE P B n ⟨[⟨f,N,todo,E⟩],⟨hs,M,c,[],[]⟩,bs,[],[]⟩ qs)=some (N,todo',E'.map (fun p=>some p.2),M',c',dB,fI,aZ))(hq:ON (cE P B n ⟨[⟨f,N,todo,E⟩],⟨hs,M,c,[],[]⟩,bs,[],[]⟩ qs)=OM (cE P B n ⟨[⟨f,N,todo,E⟩],⟨hs,M,c,[],[]⟩,bs,[],[]⟩ qs))(p7:∀p∈dB,p.1=p.2)(uT:∀p∈fI,0≤p.1∧p.1<(p.2:Int))(rO:∀p∈aZ,p.1<p.2)(S:St Ok B N E M c a w)(K:∀a' w',St Ok B N E' M' c' a' w'→a'.defers=a.defers→Fr (Wr M) w w'→(∀a,Wr M' a→Wr M a∨w.heap.size≤a.block)→Ψ (G (b.at a' todo') cs) w'):Ψ (G (b.at a todo) cs) w:=by
 cases hr:cE P B n ⟨[⟨f,N,todo,E⟩],⟨hs,M,c,[],[]⟩,bs,[],[]⟩ qs with
 |none=>rw[hr] at h;cases h
 |some xq=>
  obtain⟨x',nu⟩:=xq;rw[hr] at h hq;simp only[fin] at h
  split at h
  ·rename_i g hg
   simp only[Option.some.injEq,Prod.mk.injEq] at h;obtain⟨hN,h1,h2,h3,h4,h5,h6,h7⟩:=h;refine vK (b0:=b) (nU:=a.defers) (cs0:=cs) F qX hB hk n hr ⟨gd _ hq,by rw[h7];exact rO,by rw[h5];exact p7,by rw[h6];exact uT⟩ ⟨b,a,cs,rfl,S.env,rfl,rfl,rfl⟩ ⟨S.au,S.sz⟩ ?_;intro g' w' qY jU Km Hu;rw[hg] at qY;obtain⟨b1,a1,U8,rfl,dw,r1,r2,r3⟩:=qY;subst r1;subst r3;rw[h1];exact K _ _ ⟨⟨hN▸dw.sz,fun d v hl=>dw.val d v (fY E' g.E h2 d v hl)⟩,by rw[←h3];exact jU.au.fg _,by rw[←h4];exact jU.sz⟩ r2 Km (fun ad qy=>Hu ad (by rw[←h3] at qy;exact qy.fg))
  ·cases h
end
abbrev HB(B:Nat)(Ok:Addr→Bool→Prop):Prop:=∀(a:Addr)(wr:Bool),B≤a.block→Ok a wr
abbrev bR(b:Nat)(vs:List Value):ah:=⟨fun j=>⟨b,j.2,none⟩,vs,fun _ _=>undef,1,vs.length,true,none⟩
abbrev fR(a:Addr)(k:Nat)(v:Nat→List Value)(n:Nat)(wr:Bool):ah:=⟨fun j=>(a.add (j.1*k)).add j.2,[],fun j f=>(v j).getD f undef,n,k,wr,none⟩
abbrev i6(n:Int):Value:=.int .i64 n
abbrev ptr(b:Nat):Value:=.pointer (some ⟨b,0,none⟩)
def pc(P:Program)(f n:Nat)(bs:List Bool)(qs:List Nat):List Item:=Jz n bs qs (ug P f)
def py(t:List Item):Bool:=match t with
 |[]=>true
 |.code .ret::_=>true
 |_=>false
section
variable{P:Program}{main:Bool}{B:Nat}{Ok:Addr→Bool→Prop}{Ψ:Goroutine→World→Prop}
theorem lP{f:Nat}(fn:Func)(hf:P.funcs[f]? =some fn)(code:Code)(hb:fn.body=some code){args:Array Value}{cs:List Frame}{w:World}(K:∀b a,b.kind=.normal→b.fn=f→a.defers=[]→aO (sG args.toList 0) (args.size+(fn.ntmps-args.size)) a→Ψ (G (Frame.at b a (pc P f 0 [] [])) cs) w):Ψ (G (Frame.enter P f args .normal) cs) w:=by
 obtain⟨a,e1,e2,e3⟩:=jE (args:=args) hf hb;have e4:pc P f 0 [] []=[.code code]:=by unfold pc Jz ug;rw[hf];simp only[Option.bind_some,hb,Option.getD_some]
 rw[e1,←e4];exact K _ a rfl rfl e3 e2
theorem bk(F:aC P main (DX Ok) Ψ)(qX:P.follows .mixedOrders=true)(hB:HB B Ok){b:Frame}(hk:b.kind=.normal){f n0:Nat}{dG:List Bool}{dD:List Nat}(n:Nat)(hs:List Hint)(bs:List (Bool×Bool))(qs:List Nat)(E':Env)(ed:List ah→List ah)(c':Nat)(n':Nat)(vQ:List Bool)(nu:List Nat){N:Nat}{E:Env}{M:List ah}{c:Nat}(dB:List (Bool×Bool))(fI:List (Int×Nat))(aZ:List (Nat×Nat)){a:Act}{cs:List Frame}{w:World}(h:fin c (E'.map Prod.fst) (cE P B n ⟨[⟨f,N,pc P f n0 dG dD,E⟩],⟨hs,M,c,[],[]⟩,bs,[],[]⟩ qs)=some (N,pc P f n' vQ nu,E'.map (fun p=>some p.2),ed M,c',dB,fI,aZ))(hq:ON (cE P B n ⟨[⟨f,N,pc P f n0 dG dD,E⟩],⟨hs,M,c,[],[]⟩,bs,[],[]⟩ qs)=OM (cE P B n ⟨[⟨f,N,pc P f n0 dG dD,E⟩],⟨hs,M,c,[],[]⟩,bs,[],[]⟩ qs))(p7:∀p∈dB,p.1=p.2)(uT:∀p∈fI,0≤p.1∧p.1<(p.2:Int))(rO:∀p∈aZ,p.1<p.2)(S:St Ok B N E M c a w)(K:∀a' w',St Ok B N E' (ed M) c' a' w'→a'.defers=a.defers→Fr (Wr M) w w'→(∀a,Wr (ed M) a→Wr M a∨w.heap.size≤a.block)→Ψ (G (b.at a' (pc P f n' vQ nu)) cs) w'):Ψ (G (b.at a (pc P f n0 dG dD)) cs) w:=
 blk F qX hB (by rw[hk];decide) n f hs bs qs c E' (ed M) c' _ dB fI aZ h hq p7 uT rO S K
theorem zv(F:aC P main (DX Ok) Ψ)(qX:P.follows .mixedOrders=true)(hB:HB B Ok){b:Frame}(hk:b.kind=.normal){f n0:Nat}{dG:List Bool}{dD:List Nat}(n:Nat)(hs:List Hint)(bs:List (Bool×Bool))(qs:List Nat)(E':Env)(n':Nat)(vQ:List Bool)(nu:List Nat){N:Nat}{E:Env}{M:List ah}{c:Nat}(dB:List (Bool×Bool))(fI:List (Int×Nat))(aZ:List (Nat×Nat)){a:Act}{cs:List Frame}{w:World}(h:fin c (E'.map Prod.fst) (cE P B n ⟨[⟨f,N,pc P f n0 dG dD,E⟩],⟨hs,M,c,[],[]⟩,bs,[],[]⟩ qs)=some (N,pc P f n' vQ nu,E'.map (fun p=>some p.2),M,c,dB,fI,aZ))(hq:ON (cE P B n ⟨[⟨f,N,pc P f n0 dG dD,E⟩],⟨hs,M,c,[],[]⟩,bs,[],[]⟩ qs)=OM (cE P B n ⟨[⟨f,N,pc P f n0 dG dD,E⟩],⟨hs,M,c,[],[]⟩,bs,[],[]⟩ qs))(p7:∀p∈dB,p.1=p.2)(uT:∀p∈fI,0≤p.1∧p.1<(p.2:Int))(rO:∀p∈aZ,p.1<p.2)(S:St Ok B N E M c a w)(K:∀a' w',St Ok B N E' M c a' w'→a'.defers=a.defers→Fr (Wr M) w w'→Ψ (G (b.at a' (pc P f n' vQ nu)) cs) w'):Ψ (G (b.at a (pc P f n0 dG dD)) cs) w:=
 blk F qX hB (by rw[hk];decide) n f hs bs qs c E' M c _ dB fI aZ h hq p7 uT rO S fun a' w' S' hd fr _=>K a' w' S' hd fr
theorem rtn(F:aC P main (DX Ok) Ψ){f N:Nat}{todo:List Item}{E:Env}{M:List ah}{c:Nat}{b:Frame}{a:Act}{cf:Frame}{cs:List Frame}{w:World}(S:St Ok B N E M c a w)(af:b.kind=.normal)(aJ:b.fn=f)(hd:a.defers=[])(hs:List Hint)(v:Value)(ht:py todo=true)(h:(l8 P ⟨f,N,todo,E⟩ ⟨hs,M,c,[],[]⟩).map (fun p=>(p.1,p.2.aZ))=some (v,[]))(hq:(l8 P ⟨f,N,todo,E⟩ ⟨hs,M,c,[],[]⟩).map (fun p=>p.2.eqs.map Prod.fst)=(l8 P ⟨f,N,todo,E⟩ ⟨hs,M,c,[],[]⟩).map (fun p=>p.2.eqs.map Prod.snd))(K:Ψ (G (cf.finish v) cs) w):Ψ (G (b.at a todo) (cf::cs)) w:=by
 cases hr:l8 P ⟨f,N,todo,E⟩ ⟨hs,M,c,[],[]⟩ with
 |none=>rw[hr] at h;cases h
 |some p=>
  obtain⟨v',m'⟩:=p;rw[hr] at h hq;simp only[Option.map_some,Option.some.injEq,Prod.mk.injEq] at h hq;obtain⟨rfl,h2⟩:=h;obtain⟨fn,oO,vw,uu,J1,RG⟩:=rW hr (gd _ hq) (by rw[h2];simp) S.env S.au;have cL:∀t,Ψ (G {b.at a t with mode:=.returning} (cf::cs)) w:=fun t=>F.wM af hd (by rw[aJ];exact oO) vw uu K
  have:todo=[]∨∃l,todo=.code .ret::l:=by
   unfold py at ht
   split at ht
   ·exact .inl rfl
   ·exact .inr ⟨_,rfl⟩
   ·cases ht
  rcases this with rfl|⟨l,rfl⟩
  ·exact F.ctl (fun _=>stepG_end) (cL _)
  ·exact F.ctl (fun _=>stepG_ret') (cL _)
theorem bI{n:Int}(h1:-9223372036854775808≤n)(h2:n<9223372036854775808):IntKind.wrap .i64 n=n:=by
 simp[IntKind.wrap,IntKind.bits,IntKind.signed];omega
end
structure Vc(Ok:Addr→Bool→Prop)(sa:Option Addr)(len cap:Nat):Prop where
 row:(sa=none∧len=0∧cap=0)∨∃g,sa=some ⟨g,0,none⟩∧0<len
 le:len≤cap
 mx:cap≤maxLen
 Gq:∀a,sa=some a→∀(ad:Addr)(wr:Bool),ad.block=a.block→Ok ad wr
abbrev vR(sa:Option Addr)(k:Nat)(vl:Nat→List Value)(len cap:Nat)(e:TypeId):ah:=⟨fun j=>((sa.getD ⟨0,0,none⟩).add (j.1*k)).add j.2,[],fun j f=>(vl j).getD f undef,len,k,true,sa.map fun a=>(a.block,e,cap*k)⟩
abbrev sR(sa:Option Addr)(k:Nat)(vl:Nat→List Value)(len cap:Nat):ah:=⟨fun j=>⟨(sa.getD ⟨0,0,none⟩).block,(len+j.1)*k+j.2,none⟩,[],fun j f=>(vl j).getD f undef,cap-len,k,true,none⟩
theorem add_add(g m n:Nat):((⟨g,0,none⟩:Addr).add m).add n=⟨g,m+n,none⟩:=by rw[Addr.add_lit,Addr.add_lit,Nat.zero_add]
theorem yp{l l':List Value}{n i:Nat}(h:l.take n=l')(hi:i<n):l[i]? =l'[i]? :=by rw[←h,List.getElem?_take_of_lt hi]
section
variable{P:Program}{main:Bool}{B:Nat}{Ok:Addr→Bool→Prop}{Ψ:Goroutine→World→Prop}{b:Frame}{a:Act}{kk:List Item}{cs:List Frame}{w:World}
theorem aC.TK(F:aC P main (DX Ok) Ψ)(hB:HB B Ok){ops:Array Oper}{i:Nat}{rest:List Nat}{o:Oper}(ho:ops[i]? =some o)(hg:o.guard=none)(hk:b.kind=.normal)(s x:Operand)(t e:TypeId)(aQ:o.op=.call {callee:=.builtin .append,args:=#[s,x],argTypes:=#[t,t]})(inf:TypeInfo)(z:Value){k bytes:Nat}(ht:P.underlying t=some (.slice e))(hi:P.info? e=some inf)(hz:inf.zero=some z)(vu:inf.size=k)(UN:inf.bytes=bytes)(VS:z.cells.size=k)(sB:0<k){sa:Option Addr}{len cap nb:Nat}{news:List Value}{M:List ah}{p p1 p2:Nat}{vl vs:Nat→List Value}(hs:a.eval s=.slice sa len cap)(hx:a.eval x=.slice (some ⟨nb,0,none⟩) 1 1)(hS:Sat Ok w M)(hp:nth M p=some (vR sa k vl len cap e))(LP:nth M p1=some (sR sa k vs len cap))(NZ:p≠p1)(hv:Vc Ok sa len cap)(PD:∀j,j<len→(vl j).length=k)(AF:nth M p2=some (bR nb news))(hl:news.length=k)(h1:∀u∈news,u.oneCell'=true)(gS:B≤nb)(ey:B≤w.heap.size)(IF:len+1≤maxLen)(mw:(len+1)*bytes≤140737488355328)(K:∀g' aj iW bA w',Sat Ok w' (gM (gM M p (vR (some ⟨g',0,none⟩) k iW (len+1) aj e)) p1 (sR (some ⟨g',0,none⟩) k bA (len+1) aj))→Vc Ok (some ⟨g',0,none⟩) (len+1) aj→(∀j,j<len→iW j=vl j)→iW len=news→w.heap.size≤w'.heap.size→(sa=some ⟨g',0,none⟩∨w.heap.size≤g')→
 Ψ (G (b.at (a.put o.dst (.slice (some ⟨g',0,none⟩) (len+1) aj)) (.inRegion ops rest::kk)) cs) w'):
 Ψ (G (b.at a (.inRegion ops (i::rest)::kk)) cs) w:=by
 have LM:∀g,sa=some ⟨g,0,none⟩→∃cur,w.heap[g]? =some (.cells cur e (0,0))∧cur.size=cap*k:=fun g hg=>(hS.row p _ hp g e (cap*k) (by rw[hg];rfl)).2.2
 have rL:∃xs,w.ownsRow 0 e k (.slice sa len cap) len xs∧(∀j f,j<len→f<k→xs[j*k+f]? =(vl j)[f]?):=by
  rcases hv.row with ⟨r1,r2,r3⟩|⟨g,r1,_⟩
  ·subst r1;subst r2;subst r3
   exact⟨[],⟨by simp,.inl ⟨rfl,rfl⟩⟩,fun j f hj=>by omega⟩
  ·obtain⟨cur,r2,r3⟩:=LM g r1
   subst r1;refine⟨cur.toList.take (len*k),⟨?_,.inr ⟨g,cap,cur,rfl,Nat.zero_le _,r2,hv.le,hv.mx,r3,rfl⟩⟩,fun j f hj hf=>?_⟩
   ·rw[List.length_take,Array.length_toList,r3]
    exact Nat.min_eq_left (Nat.mul_le_mul_right _ hv.le)
   ·have aT:j*k+f<len*k:=by
     have:(j+1)*k≤len*k:=Nat.mul_le_mul_right _ hj;rw[Nat.add_mul] at this;omega
    rw[List.getElem?_take_of_lt aT];have hc:=hS.val p _ hp (j,f) ⟨hj,hf⟩;simp only[Option.getD_some,add_add] at hc;have WQ:f<(vl j).length:=by rw[PD j hj];exact hf
    simp only[World.cell?,r2,Option.isSome_none,ah.get] at hc;rw[Array.getElem?_toList] at*
    simp at hc
    rw[hc];simp[WQ]
 obtain⟨xs,rL,pF⟩:=rL
 have gz:∀j u,news[j]? =some u→w.cell? ⟨nb,j,none⟩=some u:=fun j u hj=>by
  have aT:j<news.length:=(List.getElem?_eq_some_iff.1 hj).1;have:=hS.val p2 _ AF (0,j) ⟨by simp,aT⟩
  simp only at this
  rw[this];cases hn:news with
  |nil=>rw[hn] at aT;simp at aT
  |cons y ys=>rw[hn] at hj;simp[ah.get,hj]
 have WE:nb<w.heap.size:=by
  have:0<news.length:=by rw[hl];exact sB
  exact hS.lt AF (j:=(0,0)) ⟨by simp,this⟩
 refine F.append ho (by simp[Region.wanted,hg]) (by rw[hk];decide) s x t e aQ inf z 0 k bytes ht hi hz vu UN VS sB hs hx rL hl gz h1 IF mw (Nat.zero_le _) WE (fun ad wr qy=>?_) (fun ad qy=>hB ad false (by rw[qy];exact gS)) fun v' w' eF E4 hb=>?_
 ·rcases hv.row with ⟨r1,_⟩|⟨g,r1,_⟩
  ·subst r1;simp[Value.ownBlock] at qy
  ·exact hv.Gq _ r1 ad wr (by subst r1;simp[Value.ownBlock] at qy;exact qy)
 ·rcases eF.2 with ⟨z1,z2⟩|⟨g',aj,HY,rfl,_,q1,q2,q3,q4,q5⟩
  ·omega
  ·have qY:sa=some ⟨g',0,none⟩∨w.heap.size≤g':=by
    rcases hb with z|z
    ·left
     rcases hv.row with ⟨r1,_⟩|⟨g,r1,_⟩
     ·subst r1;simp[Value.ownBlock] at z
     ·subst r1;simp[Value.ownBlock] at z;rw[z]
    ·right;simp[Value.ownBlock] at z;omega
   have J4:∀q r,nth M q=some r→q≠p→q≠p1→∀j,r.has j→some (r.ad j).block≠(Value.slice sa len cap).ownBlock:=fun q r hq aN pH j hj he=>by
    rcases hv.row with ⟨r1,_⟩|⟨g,r1,_⟩
    ·subst r1;simp[Value.ownBlock] at he
    ·obtain⟨cur,r2,r3⟩:=LM g r1
     subst r1;simp[Value.ownBlock] at he;have hc:=hS.val q r hq j hj;unfold World.cell? at hc;rw[he,r2] at hc
     simp only at hc
     split at hc
     ·cases hc
     ·rename_i eE
      have aT:(r.ad j).off<cap*k:=by rw[←r3];exact(Array.getElem?_eq_some_iff.1 hc).1
      have PR:=Nat.div_add_mod (r.ad j).off k;have hdiv:(r.ad j).off / k<cap:=Nat.div_lt_of_lt_mul (by rw[Nat.mul_comm];exact aT);have R5:(r.ad j).off % k<k:=Nat.mod_lt _ sB;have pY:(r.ad j).spot=none:=by simpa using eE
      have SJ:r.ad j=⟨g,(r.ad j).off / k*k+(r.ad j).off % k,none⟩:=by
       rw[Nat.mul_comm] at PR;cases RF:r.ad j with
       |mk bb oo ss=>rw[RF] at he pY PR;simp at he pY PR;subst he;subst pY;simp;omega
      rcases Nat.lt_or_ge ((r.ad j).off / k) len with LY|LY
      ·have:=(hS.sep p _ q r hp hq rfl ((r.ad j).off / k,(r.ad j).off % k) j ⟨LY,R5⟩ hj (by
        simp only[Option.getD_some,add_add];exact SJ.symm)).1
       exact aN this.symm
      ·have:=(hS.sep p1 _ q r LP hq rfl ((r.ad j).off / k-len,(r.ad j).off % k) j ⟨by simp only;omega,R5⟩ hj (by
        have e1:len+((r.ad j).off / k-len)=(r.ad j).off / k:=by omega
        simp only[Option.getD_some,e1];exact SJ.symm)).1
       exact pH this.symm
   have G5:∀q r,nth M q=some r→q≠p→q≠p1→∀j,r.has j→w'.heap[(r.ad j).block]? =w.heap[(r.ad j).block]? :=fun q r hq aN pH j hj=>E4.block _ (hS.lt hq hj) (J4 q r hq aN pH j hj)
   let iW:Nat→List Value:=fun j=>(List.range k).map fun f=>(HY[j*k+f]?).getD undef
   have NN:∀j f,f<k→(iW j)[f]? =some ((HY[j*k+f]?).getD undef):=fun j f hf=>by simp[iW,hf]
   have gC:∀j f,j<aj→f<k→j*k+f<HY.size:=fun j f hj hf=>by
    rw[q4];have:(j+1)*k≤aj*k:=Nat.mul_le_mul_right _ hj;rw[Nat.add_mul] at this;omega
   have LU:∀j,(iW j).length=k:=fun j=>by simp[iW]
   let bA:Nat→List Value:=fun j=>iW (len+1+j)
   have AE:∀q s,nth (gM (gM M p (vR (some ⟨g',0,none⟩) k iW (len+1) aj e)) p1 (sR (some ⟨g',0,none⟩) k bA (len+1) aj)) q=some s→(q=p∧s=vR (some ⟨g',0,none⟩) k iW (len+1) aj e)∨(q=p1∧s=sR (some ⟨g',0,none⟩) k bA (len+1) aj)∨(q≠p∧q≠p1∧nth M q=some s):=fun q s hq=>by
    rw[fP] at hq
    split at hq
    ·rename_i e
     rw[fP,if_neg (fun z=>NZ z.symm),LP] at hq;simp at hq;exact .inr (.inl ⟨e,hq.symm⟩)
    ·rename_i e
     rw[fP] at hq
     split at hq
     ·rename_i e';rw[hp] at hq;simp at hq;exact .inl ⟨e',hq.symm⟩
     ·rename_i e';exact .inr (.inr ⟨e',e,hq⟩)
   have qW:∀q r,nth M q=some r→q≠p→q≠p1→∀j,r.has j→(r.ad j).block≠g':=fun q r hq aN pH j hj he=>by
    rcases qY with z|z
    ·exact J4 q r hq aN pH j hj (by rw[z,he];rfl)
    ·have:=hS.lt hq hj;omega
   have PM:∀j f,j<aj→f<k→w'.cell? ⟨g',j*k+f,none⟩=some ((iW j).getD f undef):=fun j f hj hf=>by
    simp only[World.cell?,q1,Option.isSome_none,List.getD_eq_getElem?_getD,NN j f hf];rw[Array.getElem?_eq_getElem (gC j f hj hf)];simp
   have J6:∀o wr,Ok ⟨g',o,none⟩ wr:=fun o wr=>by
    rcases qY with z|z
    ·exact hv.Gq _ z _ wr rfl
    ·exact hB _ wr (Nat.le_trans ey z)
   have Ei:∀o,w'.frozen? ⟨g',o,none⟩=false:=fun o=>by simp only[World.frozen?,q1];simp
   have tM:∀j1 j2 l1 l2,j2<k→l2<k→j1*k+j2=l1*k+l2→j1=l1∧j2=l2:=fun j1 j2 l1 l2 a2 b2 he=>by
    have h1:(j1*k+j2) / k=j1:=by rw[Nat.mul_comm,Nat.mul_add_div sB,Nat.div_eq_of_lt a2];rfl
    have h2:(l1*k+l2) / k=l1:=by rw[Nat.mul_comm,Nat.mul_add_div sB,Nat.div_eq_of_lt b2];rfl
    have e1:j1=l1:=by rw[←h1,←h2,he]
    subst e1;exact⟨rfl,by omega⟩
   refine K g' aj iW bA w' ⟨fun q s hq j hj=>?_,fun q s hq j hj=>?_,fun q s q' s' hq dQ NS j j' hj bP he=>?_,fun q s hq g2 e2 n2 tN=>?_⟩ ⟨.inr ⟨g',rfl,by omega⟩,q2,q3,fun ad qy y wr hy=>?_⟩ (fun j hj=>?_) ?_ E4.size qY
   ·rcases AE q s hq with ⟨_,rfl⟩|⟨_,rfl⟩|⟨aN,pH,hq⟩
    ·obtain⟨j,f⟩:=j
     obtain⟨WW,nN⟩:=hj
     simp only at WW nN
     simp only[Option.getD_some,add_add,ah.get];exact PM j f (by omega) nN
    ·obtain⟨j,f⟩:=j
     obtain⟨WW,nN⟩:=hj
     simp only at WW nN
     simp only[Option.getD_some,ah.get];exact PM (len+1+j) f (by omega) nN
    ·rw[World.cell?_of_block (G5 q s hq aN pH j hj)];exact hS.val q s hq j hj
   ·rcases AE q s hq with ⟨_,rfl⟩|⟨_,rfl⟩|⟨aN,pH,hq⟩
    ·simp only[Option.getD_some,add_add]
     exact⟨J6 _ _,fun _=>⟨J6 _ _,Ei _⟩⟩
    ·simp only[Option.getD_some]
     exact⟨J6 _ _,fun _=>⟨J6 _ _,Ei _⟩⟩
    ·rw[World.frozen?_of_block (G5 q s hq aN pH j hj)];exact hS.ok q s hq j hj
   ·obtain⟨j1,j2⟩:=j;obtain⟨l1,l2⟩:=j'
    rcases AE q s hq with ⟨XL,rfl⟩|⟨XL,rfl⟩|⟨aN,pH,hq⟩
    ·obtain⟨a1,a2⟩:=hj
     rcases AE q' s' dQ with ⟨SW,rfl⟩|⟨SW,rfl⟩|⟨Ec,Cq,dQ⟩
     ·obtain⟨b1,b2⟩:=bP
      simp only[Option.getD_some,add_add,Addr.mk.injEq,and_true,true_and] at he a2 b2;obtain⟨rfl,rfl⟩:=tM _ _ _ _ a2 b2 he;exact⟨XL.trans SW.symm,rfl⟩
     ·obtain⟨b1,b2⟩:=bP
      simp only[Option.getD_some,add_add,Addr.mk.injEq,and_true,true_and] at he a1 a2 b1 b2;have:=(tM _ _ _ _ a2 b2 he).1;omega
     ·exact absurd (by rw[←he];simp only[Option.getD_some,add_add]) (qW q' s' dQ Ec Cq _ bP)
    ·obtain⟨a1,a2⟩:=hj
     rcases AE q' s' dQ with ⟨SW,rfl⟩|⟨SW,rfl⟩|⟨Ec,Cq,dQ⟩
     ·obtain⟨b1,b2⟩:=bP
      simp only[Option.getD_some,add_add,Addr.mk.injEq,and_true,true_and] at he a1 a2 b1 b2;have:=(tM _ _ _ _ a2 b2 he).1;omega
     ·obtain⟨b1,b2⟩:=bP
      simp only[Option.getD_some,Addr.mk.injEq,and_true,true_and] at he a2 b2;obtain⟨z1,rfl⟩:=tM _ _ _ _ a2 b2 he;have z2:j1=l1:=by omega
      subst z2;exact⟨XL.trans SW.symm,rfl⟩
     ·exact absurd (by rw[←he];simp only[Option.getD_some]) (qW q' s' dQ Ec Cq _ bP)
    ·rcases AE q' s' dQ with ⟨_,rfl⟩|⟨_,rfl⟩|⟨Ec,Cq,dQ⟩
     ·exact absurd (by rw[he];simp only[Option.getD_some,add_add]) (qW q s hq aN pH _ hj)
     ·exact absurd (by rw[he];simp only[Option.getD_some]) (qW q s hq aN pH _ hj)
     ·exact hS.sep q s q' s' hq dQ NS _ _ hj bP he
   ·rcases AE q s hq with ⟨_,rfl⟩|⟨_,rfl⟩|⟨aN,pH,hq⟩
    ·simp only[Option.map_some,Option.some.injEq,Prod.mk.injEq] at tN
     obtain⟨rfl,rfl,rfl⟩:=tN;exact⟨⟨by simp only;omega,sB⟩,by simp only[Option.getD_some,add_add],HY,q1,q4⟩
    ·cases tN
    ·obtain⟨z1,z2,XY,z3,z4⟩:=hS.row q s hq g2 e2 n2 tN
     have ZN:=G5 q s hq aN pH (0,0) z1;rw[z2] at ZN;exact⟨z1,z2,XY,ZN.trans z3,z4⟩
   ·cases qy
    rcases qY with z|z
    ·exact hv.Gq _ z y wr hy
    ·exact hB y wr (by rw[hy];exact Nat.le_trans ey z)
   ·refine List.ext_getElem? fun f=>?_
    have hjc:j<aj:=by omega
    rcases Nat.lt_or_ge f k with hf|hf
    ·rw[NN j f hf,←pF j f hj hf]
     have aT:j*k+f<len*k:=by
      have:(j+1)*k≤len*k:=Nat.mul_le_mul_right _ hj;rw[Nat.add_mul] at this;omega
     have Ee:j*k+f<(len+1)*k:=by rw[Nat.add_mul];omega
     have:=yp q5 Ee;rw[List.getElem?_append_left (by rw[rL.1];exact aT),Array.getElem?_toList] at this;rw[←this,Array.getElem?_eq_getElem (gC j f hjc hf)];rfl
    ·rw[List.getElem?_eq_none (by rw[LU];exact hf)]
     have:(vl j).length=k:=PD j hj;rw[List.getElem?_eq_none (by rw[this];exact hf)]
   ·refine List.ext_getElem? fun f=>?_
    rcases Nat.lt_or_ge f k with hf|hf
    ·rw[NN len f hf]
     have Ee:len*k+f<(len+1)*k:=by rw[Nat.add_mul];omega
     have:=yp q5 Ee;rw[List.getElem?_append_right (by rw[rL.1];omega),rL.1,Array.getElem?_toList] at this;have e:len*k+f-len*k=f:=by omega
     rw[e] at this;rw[←this,Array.getElem?_eq_getElem (gC len f (by omega) hf)];rfl
    ·rw[List.getElem?_eq_none (by rw[LU];exact hf),List.getElem?_eq_none (by rw[hl];exact hf)]
end
end Go.Proofs.YtobagnjnbmgidaaGreatDoor
