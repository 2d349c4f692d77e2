import Derived.Test.YtobagnjnbmgidaaGreatDoorS12
set_option linter.all false
set_option maxHeartbeats 0
set_option maxRecDepth 100000
namespace Go.Proofs.YtobagnjnbmgidaaGreatDoor
open Go.Conc Go.RowKit Tryz
variable{b:Bk}{V:Ev0}{b5 j m:Nat}{s:PS}{R:aX}{w w':aj}{e v:ay}{cs:cW}
variable{P:aI}{main:Bool}{Ok:dw}{Ψ:gi}{B t:Nat}{γ:Type}{kk:PK}{E:TE γ}
theorem drb(F:aC P main (DX Ok) Ψ){g:Nat}{a:Act}{todo:eF}(d:ju todo=true)(k:a.defers=[])(fn:Func)(i:P.funcs[g]? =some fn)(f:fn.results=#[]){b:aE}{a':Act}{todo':eF}(h:Ψ (G {b.at a' todo' with mode:=.panicking (jy v)} cs) w):Ψ (G ((baseD g).at a todo) ({b.at a' todo' with mode:=.panicking (jy v)}::cs)) w:=
 vu F d (F.ctl (λw=>by
  have c:=resultsC_none (P:=P) f a.tmps;simp[G,stepG,unwind,doReturn,Frame.at,baseD,k,i,(c w).1,(c w).2,GStep.after,seen_none]) h)
theorem Kb{Lf:LS}{L:LS}(hj:j<V.nl)(hk:(V.ly j).k=4)(f:1<=(V.ly j).e)(h:Fin V Lf m (some (t,j,none)) L):∃c,m=c+1/\xg V t L/\
 (((L.gt j).st=1/\L.now-(L.gt j).si<(V.ly j).d)\/((L.gt j).st=2/\(L.gt j).pr=(V.ly j).e)->Fin V Lf c (some (t,j,some (eB 3 j 0))) (L.say t j 7 0))/\
 (¬(((L.gt j).st=1/\L.now-(L.gt j).si<(V.ly j).d)\/((L.gt j).st=2/\(L.gt j).pr=(V.ly j).e))->Fin V Lf c (some (t,j+1,none)) ((((L.aM t j).cz j).mark t j).say t j 8 0)):=by
 cases m with
 |zero=>exact h.elim
 |succ m=>
  obtain⟨g,k,i,a⟩:=h;have e:(j=V.nl)=False:=by simp;omega
  simp only[LS.step,e,if_false,hk,af (show¬(4:Int)=1 by decide),af (show¬(4:Int)=3 by decide),if_true,LS.pass,LS.tQ]at a;refine⟨m,rfl,g,λhc=>?_,λhc=>?_⟩
  .rcases hc with hc|hc
   .rw[ah hc]at a;exact a
   .have e1:L.aM t j=L:=by unfold LS.aM;rw[af (by omega)]
    rw[af (λz=>by omega),e1,ah hc]at a;exact a
  .rw[af (λz=>hc (.inl z))]at a
   rw[af (λz=>?_)]at a
   .exact a
   .by_cases d:(L.gt j).st=1
    .have e1:(L.aM t j).gt j=(L.gt j).turn L.now 2:=by unfold LS.aM;rw[ah d];exact ug ..
     rw[e1]at z;have:(0:Int)=(V.ly j).e:=z.2;omega
    .have e1:L.aM t j=L:=by unfold LS.aM;rw[af d]
     rw[e1]at z;exact hc (.inr z)
theorem Hr{Lf:LS}{L:LS}(hk:(V.ly j).k=4)(h:Fin V Lf m (some (t,j+1,some b)) L):∃a,m=a+1/\xg V t L/\Is b/\Fin V Lf a (some (t,j,some b)) (L.count (V.ly j) t j b):=by
 cases m with
 |zero=>exact h.elim
 |succ m=>
  obtain⟨f,g,d,c⟩:=h;have e:(j+1=0)=False:=by simp
  simp only[LS.step,e,if_false,fY,hk,af (show¬(4:Int)=1 by decide),if_true]at c;exact⟨m,rfl,f,(d b rfl).1,c⟩
theorem BM(X A G C:aX):(X++(A++(G++C))).Perm (A++(G++(X++C))):=by
 have h:=iP X (A++G) C
 simpa using h
abbrev mJ(b2 b3 b5 b6 b7 lb T:Nat)(pq:Int)(e:ay)(fl:Bool):List aJ:=[bR b7 [.bool fl],oR b6 0 [i6 pq] false,bR b5 [e],oR b3 0 [ptr T] false,oR b2 0 [ptr lb] false]
theorem Hx(F:aC prog main (DX Ok) Ψ)(hB:HB B Ok){cf:aE}{a0:Act}{B0 b2 o k i:Nat}{C:aX}{lb T aR:Nat}{wi:ay}{y:ko}{f:Fb}(hg:sW y (s.l.gt j) 1000000000000 0)(DG:(s.l.gt j).st=1->(s.l.tk t).q j≠(s.l.gt j).pd)(h1:Has C (uj lb wi j s.k.J))(h2:Has C (zL T s.k.A t aR))(h3:Has C (oR lb 3 [i6 y.a,i6 y.b,i6 y.c,i6 y.d,i6 y.e] false))(hv:Vc Ok s.ea s.l.el s.ec)(hf:qF Ok (s.l.gt j).la f)(gp:B<=w.heap.size)(h:s.l.el<1000000)(hc:(s.l.tk t).c=t)(hy:(1<=y.a/\y.a<=20)/\(1<=y.c/\y.c<=100)/\(1<=y.e/\y.e<=9))(hb:Is b)(he:(b.k≠2/\e=.nilIface)\/(b.k=2/\(∃q,e=.iface 168 (ptr q))/\lz C e b.ch))(U:St Ok B0 16 [(0,ptr b2),(1,ptr k),(2,ptr o),(3,ptr i),(4,ptr b5)] (mJ b2 o b5 k i lb T ((s.l.tk t).q j) e (decide (b.k≠1))++(pM s++(mL lb (s.l.gt j) f++C))) 0 a0 w)(D:a0.defers=[])(iI:w.heap.size=B0)(K:∀ea ec vv f' a' w' n bs qs,ju (pc prog 172 n bs qs)=true->a'.defers=[]->Sat Ok w' (mJ b2 o b5 k i lb T ((s.l.tk t).q j) e (decide (b.k≠1))++(pM {s with ea:=ea,ec:=ec,vv:=vv,f:=upd s.f j f',l:=s.l.count y t j b}++(mL lb ((s.l.count y t j b).gt j) f'++C)))->Vc Ok ea (s.l.count y t j b).el ec->qF Ok ((s.l.count y t j b).gt j).la f'->w.heap.size<=w'.heap.size->Ψ (G ((baseD 172).at a' (pc prog 172 n bs qs)) (cf::cs)) w'):
 Ψ (G ((baseD 172).at a0 (pc prog 172 0 [] [])) (cf::cs)) w:=by
 obtain⟨fv,g⟩:∃fv,fv=Hs f (s.l.gt j).la.length:=⟨_,rfl⟩;have Q:(b.k≠2/\e=.nilIface)\/(b.k=2/\lz (mJ b2 o b5 k i lb T ((s.l.tk t).q j) e (decide (b.k≠1))++C) e b.ch):=he.imp id λz=>⟨z.1,z.2.2.up λr hr=>hr.app _⟩
 simp only[mL,<-g]at U
 by_cases J:(s.l.tk t).q j=(s.l.gt j).pd
 .have O:(s.l.gt j).st=0\/(s.l.gt j).st=2:=by
   rcases hg.st with ⟨z,_⟩|⟨z,_⟩|⟨z,_⟩
   .exact .inl z
   .exact absurd J (DG z)
   .exact .inr z
  have uQ:((s.l.gt j).pd==(s.l.tk t).q j)=true:=by simp[J]
  rcases he with ⟨hk,rfl⟩|⟨hk,⟨q,rfl⟩,he⟩
  .refine wZ F aB hB (by omega) D 10 [(4,(0,0),true),(12,(0,2),true),(1,(0,0),true),(4,(0,0),true),(3,(0,0),true),(0,(0,0),true),(2,(0,0),true)] [(true,false)] [5] [(14,.nilIface),(13,.bool (decide (b.k≠1))),(12,ptr T),(11,ptr lb)] (λM=>M) 0 10 [true] [5] [((s.l.gt j).pd==(s.l.tk t).q j,true)] [] [] (by kernel_rfl) (by kernel_rfl) (nO (by assumption) cg) cg cg U λa1 Y H a L N S=>?_
   refine YS F a 15 173 #[ptr lb,ptr T,.bool (decide (b.k≠1)),.nilIface] (by kernel_rfl) (by kernel_rfl) (by decide) H λgJ c=>?_
   refine HQ F hB (C:=mJ b2 o b5 k i lb T ((s.l.tk t).q j) .nilIface (decide (b.k≠1))++C) (f:=f) hg O ((H.sat.cast (by simp only[mL,g])).perm (BM ..)) (h1.app _) (h2.app _) (h3.app _) hv hf (by omega) h hc J hy hb Q ?_;intro ea ec vv f' X h4 p u oB;obtain⟨I,d⟩:∃I,I=mJ b2 o b5 k i lb T ((s.l.tk t).q j) .nilIface (decide (b.k≠1))++(pM {s with ea:=ea,ec:=ec,vv:=vv,f:=upd s.f j f',l:=s.l.count y t j b}++(mL lb ((s.l.count y t j b).gt j) f'++C)):=⟨_,rfl⟩;have h5:Sat Ok X I:=by rw[d];exact h4.perm (BM ..).symm
   refine c _ _ _ h5 λa2 B2 S2 A fV=>?_
   refine wZ F aB hB (by omega) A 1 [] [] [] [] (λM=>M) 0 12 [true] [5] [] [] [] (by kernel_rfl) (by kernel_rfl) cg cg cg S2 λa3 W S3 x Z ji dX=>?_
   exact K ea ec vv f' a3 W _ _ _ (by kernel_rfl) x (by have:=S3.sat;rw[d]at this;exact this) p u (by omega)
  .refine wZ F aB hB (by omega) D 10 [(4,(0,0),true),(12,(0,2),true),(1,(0,0),true),(4,(0,0),true),(3,(0,0),true),(0,(0,0),true),(2,(0,0),true)] [(true,false)] [5] [(14,.iface 168 (ptr q)),(13,.bool (decide (b.k≠1))),(12,ptr T),(11,ptr lb)] (λM=>M) 0 10 [true] [5] [((s.l.gt j).pd==(s.l.tk t).q j,true)] [] [] (by kernel_rfl) (by kernel_rfl) (nO (by assumption) cg) cg cg U λa1 Y H a L N S=>?_
   refine YS F a 15 173 #[ptr lb,ptr T,.bool (decide (b.k≠1)),.iface 168 (ptr q)] (by kernel_rfl) (by kernel_rfl) (by decide) H λgJ c=>?_
   refine HQ F hB (C:=mJ b2 o b5 k i lb T ((s.l.tk t).q j) (.iface 168 (ptr q)) (decide (b.k≠1))++C) (f:=f) hg O ((H.sat.cast (by simp only[mL,g])).perm (BM ..)) (h1.app _) (h2.app _) (h3.app _) hv hf (by omega) h hc J hy hb Q ?_;intro ea ec vv f' X h4 p u oB;obtain⟨I,d⟩:∃I,I=mJ b2 o b5 k i lb T ((s.l.tk t).q j) (.iface 168 (ptr q)) (decide (b.k≠1))++(pM {s with ea:=ea,ec:=ec,vv:=vv,f:=upd s.f j f',l:=s.l.count y t j b}++(mL lb ((s.l.count y t j b).gt j) f'++C)):=⟨_,rfl⟩;have h5:Sat Ok X I:=by rw[d];exact h4.perm (BM ..).symm
   refine c _ _ _ h5 λa2 B2 S2 A fV=>?_
   refine wZ F aB hB (by omega) A 1 [] [] [] [] (λM=>M) 0 12 [true] [5] [] [] [] (by kernel_rfl) (by kernel_rfl) cg cg cg S2 λa3 W S3 x Z ji dX=>?_
   exact K ea ec vv f' a3 W _ _ _ (by kernel_rfl) x (by have:=S3.sat;rw[d]at this;exact this) p u (by omega)
 .have Tg:s.l.count y t j b=s.l:=by unfold LS.count;rw[ah J]
  have uQ:((s.l.gt j).pd==(s.l.tk t).q j)=false:=by simpa using λz=>J z.symm
  rw[Tg]at K;refine wZ F aB hB (by omega) D 6 [(4,(0,0),true),(12,(0,2),true),(1,(0,0),true)] [(false,false)] [5] [] (λM=>M) 0 6 [false] [5] [((s.l.gt j).pd==(s.l.tk t).q j,false)] [] [] (by kernel_rfl) (by kernel_rfl) (nO (by assumption) cg) cg cg U λa1 Y H a L N S=>?_
  refine K s.ea s.ec s.vv f a1 Y _ _ _ (by kernel_rfl) a ?_ hv hf (by omega);simp only[mL,<-g];exact H.sat
def Kj(x y:Bool)(nn:Int)(e:ay)(b5:Nat):Env:=(bif x then[(41,i6 nn)]else[])++((bif y then[(42,e)]else[])++[(4,i6 nn),(5,ptr b5)])
theorem HT(F:aC prog main (DX Ok) Ψ)(hB:HB B Ok){bb:aE}(I:bb.kind=.normal){L:Act}{C:Nat}{nn:Int}{r p:aJ}{M:aX}{ds:xh}(U:e=.nilIface\/∃q,e=.iface 168 (ptr q))(Q:B<=C)(X:St Ok C 43 [(4,i6 nn),(5,ptr b5)] (r::p::bR b5 [e]::M) 0 L w)(H:L.defers=ds)(K:∀a' w',St Ok C 43 [(4,i6 nn),(5,ptr b5)] (r::p::bR b5 [e]::M) 0 a' w'->a'.defers=ds->Ψ (G (bb.at a' (pc prog 169 49 [false] [4,11,4])) cs) w'):
 Ψ (G (bb.at L (pc prog 169 48 [false] [4,11])) cs) w:=by
 have D:mU (pc prog 169 48 [false] [4,11])=true:=by kernel_rfl
 obtain⟨id,e1⟩:∃id,pc prog 169 48 [false] [4,11]=.code (.region id (aL (pc prog 169 48 [false] [4,11])) true)::behind (pc prog 169 48 [false] [4,11]):=by
  unfold mU at D
  split at D
  .rename_i id N k h;exact⟨id,by rw[h];rfl⟩
  .cases D
 rw[e1];have l:HB C Ok:=λa wr z=>hB a wr (by omega)
 have g:bb.kind≠.early:=by rw[I];decide
 refine F.Mj aB [[],[],[0],[0,1,2]] (n:=4) (by kernel_rfl) (by kernel_rfl) (λb a w=>St Ok C 43 (Kj (b 0) (b 1) nn e b5) (r::p::bR b5 [e]::M) 0 a w/\a.defers=ds) ⟨X,H⟩ (λi _ T b a w J W A y rest O hk=>?_) (λb a w J x=>?_)
 .obtain⟨S,u⟩:=J
  match i,T with
  |0,_=>
   rw[A]at S;cases d:b 1 with
   |true=>
    rw[d]at S;exact blk F aB l g 1 169 [] [] [] 0 (Kj true true nn e b5) (r::p::bR b5 [e]::M) 0 _ [] [] [] (by kernel_rfl) (by kernel_rfl) cg cg cg S λa' w' o c _ _=>hk a' w' ⟨by simpa [tick,d]using o,c.trans u⟩
   |false=>
    rw[d]at S;exact blk F aB l g 1 169 [] [] [] 0 (Kj true false nn e b5) (r::p::bR b5 [e]::M) 0 _ [] [] [] (by kernel_rfl) (by kernel_rfl) cg cg cg S λa' w' o c _ _=>hk a' w' ⟨by simpa [tick,d]using o,c.trans u⟩
  |1,_=>
   rw[A]at S;cases f:b 0 with
   |true=>
    rw[f]at S;exact blk F aB l g 1 169 [(2,(0,0),true)] [] [] 0 (Kj true true nn e b5) (r::p::bR b5 [e]::M) 0 _ [] [] [] (by kernel_rfl) (by kernel_rfl) cg cg cg S λa' w' o c _ _=>hk a' w' ⟨by simpa [tick,f]using o,c.trans u⟩
   |false=>
    rw[f]at S;exact blk F aB l g 1 169 [(2,(0,0),true)] [] [] 0 (Kj false true nn e b5) (r::p::bR b5 [e]::M) 0 _ [] [] [] (by kernel_rfl) (by kernel_rfl) cg cg cg S λa' w' o c _ _=>hk a' w' ⟨by simpa [tick,f]using o,c.trans u⟩
  |2,_=>
   have f:=y 0 (by simp);rw[f]at S;cases d:b 1 with
   |true=>
    rw[d]at S;exact blk F aB l g 1 169 [] [] [] 0 (Kj true true nn e b5) (r::p::bR b5 [e]::M) 0 _ [] [] [] (by kernel_rfl) (by kernel_rfl) cg cg cg S λa' w' o c _ _=>hk a' w' ⟨by simpa [tick,d,f]using o,c.trans u⟩
   |false=>
    rw[d]at S;exact blk F aB l g 1 169 [] [] [] 0 (Kj true false nn e b5) (r::p::bR b5 [e]::M) 0 _ [] [] [] (by kernel_rfl) (by kernel_rfl) cg cg cg S λa' w' o c _ _=>hk a' w' ⟨by simpa [tick,d,f]using o,c.trans u⟩
  |3,_=>
   have f:=y 0 (by simp);have d:=y 1 (by simp);rw[f,d]at S;rcases U with rfl|⟨q,rfl⟩
   .exact blk F aB l g 1 169 [(2,(0,0),true)] [] [] 0 (Kj true true nn .nilIface b5) (r::p::bR b5 [.nilIface]::M) 0 _ [] [] [] (by kernel_rfl) (by kernel_rfl) cg cg cg S λa' w' o c _ _=>hk a' w' ⟨by simpa [tick,d,f]using o,c.trans u⟩
   .exact blk F aB l g 1 169 [(2,(0,0),true)] [] [] 0 (Kj true true nn (.iface 168 (ptr q)) b5) (r::p::bR b5 [.iface 168 (ptr q)]::M) 0 _ [] [] [] (by kernel_rfl) (by kernel_rfl) cg cg cg S λa' w' o c _ _=>hk a' w' ⟨by simpa [tick,d,f]using o,c.trans u⟩
 .obtain⟨S,u⟩:=J
  rw[x 0 (by omega),x 1 (by omega)]at S;have h:=K a w (S.dD _ rfl) u;rw[show pc prog 169 49 [false] [4,11,4]=.inRegion (aL (pc prog 169 48 [false] [4,11])) []::behind (pc prog 169 48 [false] [4,11]) by kernel_rfl]at h;exact h
theorem LS.Gg(L:LS)(t j:Nat)(a b c:Int):(L.say t a b c).mark t j=(L.mark t j).say t a b c:=by
 unfold LS.mark LS.say;simp only[upd,if_true]
section
variable{Lf:LS}
theorem yc(X A R O:aX)(a:aJ):(X++(A++(a::(R++O)))).Perm (A++(a::((X++R)++O))):=by
 have h:=iP X (A++[a]) (R++O)
 simpa using h
theorem Rs(X A G R O:aX)(a:aJ):(X++(A++(G++(a::(R++O))))).Perm (A++(G++(a::((X++R)++O)))):=by
 have h:=iP X (A++G++[a]) (R++O)
 simpa using h
theorem Cn.more{p:γ}(C:Cn E kk t p s w v R)(X:aX)(c:∀r∈X,r.row=none)(h:Sat (E.Ok p) w' (X++(pM s++(fI (kk.T t) v false::(R++E.P p s)))))(a:w.heap.size<=w'.heap.size):Cn E kk t p s w' v (X++R):=
 ⟨h.perm (yc ..),C.pv,C.qi,by rw[fM];exact Flat.app (bN.2 c) C.fl,C.fJ.app X,aT C.bd a,C.gu,C.hk,C.ql⟩
theorem Cn.LA{p:γ}(C:Cn E kk t p s w v R)(hj:j<kk.V.nl)(X:aX)(d:∀r∈X,r.row=none)(h:Sat (E.Ok p) w' (X++(pM s++(gR (kk.V.ly j) (kk.lb j) (s.l.gt j) (s.f j)++(fI (kk.T t) v false::(R++(gX s j++E.O p)))))))(c:w.heap.size<=w'.heap.size):Cn E kk t p s w' v (X++R):=by
 refine C.more X d (h.perm ?_) c;refine kv X ((BN ..).symm.trans ?_);refine kv _ (List.Perm.cons _ (kv _ ?_));have a:=qX s (k:=j) (by rw[C.hk];exact hj);rw[C.hk]at a;rw[<-fM];exact(a.append_right _).symm
theorem DU(hk:s.k=kk)(hj:j<kk.V.nl)(R O:aX)(a:aJ):(pM s++(a::(R++(gS s++O)))).Perm (pM s++(gR (kk.V.ly j) (kk.lb j) (s.l.gt j) (s.f j)++(a::(R++(gX s j++O))))):=by
 have c:=qX s (k:=j) (by rw[hk];exact hj);rw[hk]at c;refine List.Perm.trans ?_ (BN ..);refine kv _ (List.Perm.cons _ (kv _ ?_));rw[<-fM];exact c.append_right _
theorem Uq(W:l7 E kk Lf t)(hj:j<kk.V.nl)(hk:(kk.V.ly j).k=4)(IH:eM E kk Lf t (j+1)):eM E kk Lf t j:=by
 intro m p s w v R c cs C hf JV K;rw[show fZ kk.V j=169 by unfold fZ;rw[af (by omega),af (by rw[hk];decide),af (by rw[hk];decide),ah hk]];have F:=W.f p;have hB:=W.hB p;have wY:=C.bd;have hV:=W.V.br j hj hk;obtain⟨m0,rfl,hs,qg,XK⟩:=Kb hj hk hV.2.2.2.2.1 hf;have hg:=hs.gt j hj (by omega);have LL:=hs.now;have O:∀g f,gR (kk.V.ly j) (kk.lb j) g f=mL (kk.lb j) g f:=λg f=>by unfold gR;rw[af (by rw[hk];decide),ah hk]
 have GN:=C.hk;have hA:∀{d:PS},d.k=kk->d.k.A=kk.A:=λh=>by rw[h]
 have hJ:∀{d:PS},d.k=kk->d.k.J=kk.J:=λh=>by rw[h]
 have Ou:=C.fJ.lay j hj;have hfb:=C.pv.fb j (by rw[GN];exact hj) (by rw[GN];exact hk);obtain⟨ty,GC,LV⟩:=su W.V hj;have hS:=C.sat;refine dg f169 func169 _ rfl 43 (by kernel_rfl) hS λbb a0 B1 hn k iK jf S0 iI=>?_
 refine aq F hB k jf S0 12 [2,0,0,1,1,0,0,1] [] [] [(9,ptr (kk.T t)),(8,ptr (kk.lb j)),(5,ptr (B1+2)),(3,ptr (B1+1)),(2,ptr B1)] (λM=>bR (B1+2) [.nilIface]::(bR (B1+1) [ptr (kk.T t)]::(bR (B1) [ptr (kk.lb j)]::(M)))) 3 12 [] [] λa1 w1 S1 kJ iH jA dS=>?_
 have C1:Cn E kk t p s w1 v ([bR (B1+2) [.nilIface],oR (B1+1) 0 [ptr (kk.T t)] false,oR B1 0 [ptr (kk.lb j)] false]++R):=C.more [bR (B1+2) [.nilIface],oR (B1+1) 0 [ptr (kk.T t)] false,oR B1 0 [ptr (kk.lb j)] false] (λr D=>by simp at D;rcases D with rfl|rfl|rfl<;>rfl) (Sat.AK [bR (B1+2) [.nilIface],oR (B1+1) 0 [ptr (kk.T t)] false] (Sat.AK [bR (B1+2) [.nilIface]] S1.sat)) (by omega);have h1:=C1.open hj;rw[O]at h1;refine bK F k kJ S1 10 171 #[ptr (kk.lb j),ptr (kk.T t)] λgJ DJ=>?_
 refine NZ F hB (j:=j) (y:=kk.V.ly j) hg h1 (by rw[hJ GN];exact(C1.fJ.lay j hj).pre _|>.cons) (by rw[hA GN];exact(C1.fJ.nL t W.tn).pre _|>.cons) ((C1.fJ.Ms j hj hk).pre _|>.cons) C.pv.jr hfb (by omega) hs.el hs.tc LL hV.2.2.2.2 (λhc U h2 je=>?_) (λhc ea ec vv f' U h2 Sd DI je=>?_)
 .have C2:Cn E kk t p s U v ([bR (B1+2) [.nilIface],oR (B1+1) 0 [ptr (kk.T t)] false,oR B1 0 [ptr (kk.lb j)] false]++R):=C1.LA hj [] (λr D=>by cases D) (by rw[O];exact h2) (by omega)
  have J0:=C2.bd;refine DJ _ _ _ (C2.sat.perm (yc ..).symm) λa2 B2 S2 jQ fV=>?_
  refine aq F hB k jQ S2 4 [] [3] [] [(5,ptr (B1+2)),(3,ptr (B1+1)),(2,ptr B1)] (λM=>M) 0 17 [true] [] λa3 w3 S3 jF gQ ji dX=>?_
  have C3:Cn E kk t p s w3 v ([bR (B1+2) [.nilIface],oR (B1+1) 0 [ptr (kk.T t)] false,oR B1 0 [ptr (kk.lb j)] false]++R):=C.more _ (λr D=>by simp at D;rcases D with rfl|rfl|rfl<;>rfl) S3.sat (by omega)
  have sH:∀d w' q,Cn E kk t p d w' v (oR q 0 [i6 3,i6 j,i6 0,.nilIface] false::([bR (B1+2) [.nilIface],oR (B1+1) 0 [ptr (kk.T t)] false,oR B1 0 [ptr (kk.lb j)] false]++R))->Sat (E.Ok p) w' [oR B1 0 [ptr (kk.lb j)] false,oR (B1+1) 0 [ptr (kk.T t)] false]:=λd w' q C'=>by
   refine C'.sat.Fw λr D=>?_
   simp only[ak,bB,or_false]at D;rcases D with rfl|rfl
   .exact Has.in (X:=[oR q 0 [i6 3,i6 j,i6 0,.nilIface] false]) ⟨rfl,2,rfl⟩
   .exact Has.in (X:=[oR q 0 [i6 3,i6 j,i6 0,.nilIface] false]) ⟨rfl,1,rfl⟩
  have Yd:Sat (E.Ok p) w3 [oR B1 0 [ptr (kk.lb j)] false,oR (B1+1) 0 [ptr (kk.T t)] false]:=by
   refine C3.sat.Fw λr D=>?_
   simp only[ak,bB,or_false]at D;rcases D with rfl|rfl
   .exact Has.in (X:=[]) ⟨rfl,2,rfl⟩
   .exact Has.in (X:=[]) ⟨rfl,1,rfl⟩
  refine VD W.f aB W.hB k 7 4 [oR B1 0 [ptr (kk.lb j)] false,oR (B1+1) 0 [ptr (kk.T t)] false] [(0,(0,0),true),(1,(0,0),true)] [(14,ptr (kk.lb j)),(15,ptr (kk.T t))] 16 168 #[ptr (kk.lb j),ptr (kk.T t)] (by kernel_rfl) (by kernel_rfl) (by kernel_rfl) (by kernel_rfl) (by kernel_rfl) S3 Yd (by omega) λcf w4 OQ jP Tr=>?_
  refine xX W (w:=w4) {C3 with sat:=OQ.perm (yc ..),bd:=by omega} hj hs λI w5 q C5 e5 kT=>?_
  have Tn:=C5.bd;have Tu:=C5.sat.perm (gD (A:=pM I) (X:=[oR q 0 [i6 3,i6 j,i6 0,.nilIface] false]) (Y:=[bR (B1+2) [.nilIface],oR (B1+1) 0 [ptr (kk.T t)] false,oR B1 0 [ptr (kk.lb j)] false]));refine Tr.ret p _ w5 [] [(17,i6 0),(18,.iface 168 (ptr q)),(5,ptr (B1+2))] _ Tn (sH I w5 q C5) Tu (by kernel_rfl) (by kernel_rfl) λa6 w6 B6 S6 nB oS yw=>?_
  rw[jF]at nB;refine aq F hB k nB S6 3 [0,0,0,1] [] [] [(4,i6 0),(5,ptr (B1+2))] (λM=>bu 0 (0,0) (.iface 168 (ptr q)) (M)) 0 21 [true] [7] λa7 w7 S7 lW oA oT tu=>?_
  refine Je F (a:=a7) (N:=43) (E:=[(4,i6 0),(5,ptr (B1+2))]) S7.env S7.sat k iK lW [(0,(0,0),true)] (.tuple #[i6 0,.iface 168 (ptr q)]) (by kernel_rfl) (by kernel_rfl) ?_|>vu F (by kernel_rfl);have Z6:=qg hc;rw[<-e5]at Z6;exact K m0 p I w7 v [oR q 0 [i6 3,i6 j,i6 0,.nilIface] false] (.inl (.tuple #[i6 0,.iface 168 (ptr q)])) (eB 3 j 0) (by omega) (by omega) ⟨S7.sat.tail.tail.tail,C5.pv,C5.qi,Flat.Qb (X:=[oR q 0 [i6 3,i6 j,i6 0,.nilIface] false]) (Y:=[bR (B1+2) [.nilIface],oR (B1+1) 0 [ptr (kk.T t)] false,oR B1 0 [ptr (kk.lb j)] false]) C5.fl,C.fJ.cons,by omega,C5.gu,C5.hk,C5.ql⟩ Z6 (.inr (.inl ⟨rfl,_,rfl,q,.nilIface,rfl,⟨rfl,0,rfl⟩,rfl⟩)) (λi hi=>by rw[e5];rfl) (λi hi=>by rw[e5];rfl)
 .have C2:=C1.shut hj LG.U5 (by rw[O];exact h2) Sd (λ_=>DI) (w':=U) (by omega)
  have Q:=XK hc;obtain⟨Z,yz⟩:∃Z:PS,Z={s with ea:=ea,ec:=ec,vv:=vv,f:=upd s.f j f',l:=(s.l.aM t j).cz j}:=⟨_,rfl⟩;rw[<-yz]at C2;have e2:Z.l=(s.l.aM t j).cz j:=by rw[yz]
  rw[<-e2]at Q
  have hs3:xg kk.V t ((Z.l.mark t j).say t j 8 0):=by
   cases m0 with
   |zero=>exact Q.elim
   |succ m0=>exact Q.1
  have aar:Z.l.el+1<1000000:=hs3.el;have WI:(Z.l.tk t).c=t:=by rw[e2,LG.U5.tc];exact hs.tc
  have J0:=C2.bd;refine DJ _ _ _ (C2.sat.perm (yc ..).symm) λa2 B2 S2 jQ fV=>?_
  refine aq F hB k jQ S2 5 [] [1] [] [(5,ptr (B1+2)),(3,ptr (B1+1)),(2,ptr B1)] (λM=>M) 0 18 [false] [] λa3 w3 S3 jF gQ ji dX=>?_
  refine aq F hB k jF S3 1 [2,0,0,1,1,0,0,1] [] [4] [(22,ptr (kk.T t)),(21,ptr (kk.lb j)),(5,ptr (B1+2)),(3,ptr (B1+1)),(2,ptr B1)] (λM=>M) 0 19 [false] [4] λa4 w4 S4 oD jP oB TR=>?_
  refine bK F k oD S4 23 149 #[ptr (kk.lb j),ptr (kk.T t),i6 8,i6 0] λYT XW=>?_
  refine lH W {C2 with sat:=S4.sat.perm (yc ..),bd:=by omega} (by omega) WI (C1.fJ.lay j hj) λI w5 C5 e5 kT=>?_
  have Tn:=C5.bd;have Tu:=(C5.open hj).perm (Rs ..).symm;rw[O]at Tu;obtain⟨fv,Qn⟩:∃fv,fv=Hs (I.f j) (I.l.gt j).la.length:=⟨_,rfl⟩;simp only[mL,<-Qn]at Tu;refine XW _ _ _ Tu λa5 u S5 nC mz=>?_
  refine aq F hB k nC S5 15 [2,0,0,1,10,0,2,1,1,0,0,1,0,0,0,1] [] [] [(28,.func (Fn.func 172) #[] #[ptr B1,ptr u,ptr (B1+1),ptr (u+1),ptr (B1+2)]),(7,ptr (u+1)),(5,ptr (B1+2)),(3,ptr (B1+1)),(2,ptr B1)] (λM=>bR (u+1) [.bool true]::(bR (u) [i6 (I.l.gt j).pd]::(M))) 2 35 [false] [4] λa6 w6 S6 nB oS yw Qy=>?_
  refine YN F hn nB 172 [ptr B1,ptr u,ptr (B1+1),ptr (u+1),ptr (B1+2)] (by kernel_rfl) (by kernel_rfl) (by kernel_rfl) S6 λa7 S7 lW=>?_
  refine aq F hB k lW S7 2 [] [] [] [(7,ptr (u+1)),(5,ptr (B1+2)),(3,ptr (B1+1)),(2,ptr B1)] (λM=>M) 2 38 [false] [4] λa8 w8 S8 Et yt Em O3=>?_
  have UR:Cn E kk t p I w5 v R:=C5.drop C.fJ;obtain⟨s8,Sm⟩:∃s8:PS,s8={I with l:=I.l.mark t j}:=⟨_,rfl⟩
  have Ye:Sat (E.Ok p) w8 (mJ B1 (B1+1) (B1+2) u (u+1) (kk.lb j) (kk.T t) (I.l.gt j).pd .nilIface true++(pM s8++(mL (kk.lb j) (s8.l.gt j) (s8.f j)++(fI (kk.T t) v false::(R++(gX s8 j++E.O p)))))):=by
   rw[Sm];have h:=Sat.AK [bR (u+1) [.bool true]] S8.sat;simp only[mL];rw[Qn]at h;exact h
  have Cm:Cn E kk t p s8 w8 v R:=by
   have h:=UR.shut (ea:=I.ea) (ec:=I.ec) (vv:=I.vv) (f':=I.f j) hj (LG.mark (L:=I.l)) (w':=w8) (by rw[O,jo];rw[Sm]at Ye;exact Ye.tail.tail.tail.tail.tail) UR.pv.jr (λ_=>UR.pv.fb j (by rw[UR.hk];exact hj) (by rw[UR.hk];exact hk)) (by omega);rw[jo]at h;rw[Sm];exact h
  have C8:Cn E kk t p s8 w8 v (mJ B1 (B1+1) (B1+2) u (u+1) (kk.lb j) (kk.T t) (I.l.gt j).pd .nilIface true++R):=Cm.LA hj _ (λr D=>by simp at D;rcases D with rfl|rfl|rfl|rfl|rfl<;>rfl) (by rw[O];exact Ye) (az _);have e8:s8.l=(Z.l.mark t j).say t j 8 0:=by rw[Sm,<-LS.Gg,<-e5]
  rw[<-e8]at Q;have hq8:(s8.l.tk t).q j=(I.l.gt j).pd:=by rw[Sm];simp[LS.mark,upd]
  have sH:∀o d w' J X,Cn E kk t o d w' J (X++(mJ B1 (B1+1) (B1+2) u (u+1) (kk.lb j) (kk.T t) (I.l.gt j).pd .nilIface true++R))->Sat (E.Ok o) w' [oR B1 0 [ptr (kk.lb j)] false,oR (B1+1) 0 [ptr (kk.T t)] false,uj (kk.lb j) (.iface ty (ptr (kk.lb (j+1)))) j kk.J]:=by
   intro o d w' J X C';refine C'.sat.Fw λr D=>?_
   simp only[ak,bB,or_false]at D;rcases D with rfl|rfl|rfl
   .exact Has.in ⟨rfl,4,rfl⟩
   .exact Has.in ⟨rfl,3,rfl⟩
   .rw[<-GC];exact Has.in (Ou.app _)
  unfold eM at IH;generalize fZ kk.V (j+1)=gf at*;have hS9:=C8.sat;replace S8:St (E.Ok p) u 43 _ _ 2 a8 w8:=⟨S8.env,hS9,S8.sz⟩;refine VD W.f aB W.hB k 11 6 [oR B1 0 [ptr (kk.lb j)] false,oR (B1+1) 0 [ptr (kk.T t)] false,uj (kk.lb j) (.iface ty (ptr (kk.lb (j+1)))) j kk.J] [(0,(0,0),true),(2,(0,0),true),(1,(0,0),true)] [(34,.iface ty (ptr (kk.lb (j+1)))),(35,ptr (kk.T t))] 36 gf #[ptr (kk.lb (j+1)),ptr (kk.T t)] (by kernel_rfl) (by kernel_rfl) (by kernel_rfl) (by kernel_rfl) (by rcases LV with ⟨rfl,rfl⟩|⟨rfl,rfl⟩|⟨rfl,rfl⟩|⟨rfl,rfl⟩|⟨rfl,rfl⟩<;>kernel_rfl) S8 (sH p s8 w8 v [] C8) (by omega) λcf w9 Yg An Yi=>?_
  refine IH m0 p s8 w9 v _ cf (c::cs) {C8 with sat:=Yg,bd:=by omega} Q (by omega) λm' o d w' J X r b GM uR C' Ik D Ay Il=>?_
  obtain⟨m1,rfl,En,Av,pP⟩:=Hr hk Ik;have sF:=C'.bd;replace F:=W.f o;replace hB:=W.hB o;have nA:=C'.hk;have uQ:(d.l.tk t).q j=(I.l.gt j).pd:=(Il j (by omega)).trans hq8;rw[<-uQ]at C' sH
  have Ya:∀i,i<j->((d.l.count (kk.V.ly j) t j b).tk t).a i=(s.l.tk t).a i:=λi hi=>by
   rw[(LG.count (kk.V.ly j) b).ta,Ay i (by omega),e8,(LG.say (j:=j) ..).ta,LG.mark.ta,e2,LG.U5.ta]
  have DG:∀i,i<j->((d.l.count (kk.V.ly j) t j b).tk t).q i=(s.l.tk t).q i:=λi hi=>by
   rw[(LG.count (kk.V.ly j) b).tq i (by omega),Il i (by omega),e8,(LG.say (j:=j) ..).tq i (by omega),LG.mark.tq i (by omega),e2,LG.U5.tq i (by omega)]
  have hM:=C'.sat.perm (gD (A:=pM d));have Zb:Cn E kk t o d w' J (X++R):=⟨hM.tail.tail.tail.tail.tail,C'.pv,C'.qi,C'.fl.Qb,C.fJ.app X,sF,C'.gu,nA,C'.ql⟩;have XJ:=Zb.pv.fb j (by rw[nA];exact hj) (by rw[nA];exact hk);have Tt:=hM.perm (kv _ (DU nA hj (X++R) (E.O o) (fI (kk.T t) J false)));rw[O]at Tt
  have YO:∀(e:ay){cf:aE}{Uh:cW}{a0:Act}{w1:aj}{B0:Nat},(b.k≠2/\e=.nilIface)\/(b.k=2/\(∃q,e=.iface 168 (ptr q))/\lz X e b.ch)->w'.heap.size<=w1.heap.size->St (E.Ok o) B0 16 [(0,ptr B1),(1,ptr u),(2,ptr (B1+1)),(3,ptr (u+1)),(4,ptr (B1+2))] (mJ B1 (B1+1) (B1+2) u (u+1) (kk.lb j) (kk.T t) ((d.l.tk t).q j) e (decide (b.k≠1))++(pM d++(mL (kk.lb j) (d.l.gt j) (d.f j)++(fI (kk.T t) J false::((X++R)++(gX d j++E.O o)))))) 0 a0 w1->a0.defers=[]->w1.heap.size=B0->
   (∀Z a2 U n bs qs,ju (pc prog 172 n bs qs)=true->a2.defers=[]->Cn E kk t o Z U J (X++R)->Z.l=d.l.count (kk.V.ly j) t j b->Sat (E.Ok o) U [bR (B1+2) [e]]->E.Ψ o (G ((baseD 172).at a2 (pc prog 172 n bs qs)) (cf::Uh)) U)->E.Ψ o (G ((baseD 172).at a0 (pc prog 172 0 [] [])) (cf::Uh)) w1:=by
   intro e cf Uh a0 w1 B0 he jA S0 jf iI KK;refine Hx F hB (j:=j) (y:=kk.V.ly j) (b:=b) (f:=d.f j) (En.gt j hj (by omega)) (En.q j hj hk) (by rw[hJ nA];exact(((C.fJ.lay j hj).app X).pre _).cons) (by rw[hA nA];exact(((C.fJ.nL t W.tn).app X).pre _).cons) ((((C.fJ.Ms j hj hk).app X).pre _).cons) Zb.pv.jr XJ (by omega) En.el En.tc ⟨hV.1,hV.2.2.1,hV.2.2.2.2⟩ Av (he.imp id λz=>⟨z.1,z.2.1,z.2.2.up λr D=>((D.pre R).pre _).cons⟩) S0 jf iI λea ec vv f2 a2 U n bs qs q1 q2 q3 q4 q5 q6=>?_
   have Cx:=Zb.shut hj (LG.count (kk.V.ly j) b) (w':=U) (by rw[O];exact q3.tail.tail.tail.tail.tail) q4 (λ_=>q5) (by omega);exact KK _ a2 U n bs qs q1 q2 Cx rfl (q3.sub (by simp))
  obtain⟨VA,JW⟩:∃VA,VA=Hs (d.f j) (d.l.gt j).la.length:=⟨_,rfl⟩;simp only[mL,<-JW]at Tt;rcases D with ⟨hb,rfl⟩|⟨hb,e,rfl,he⟩|⟨hb,rfl⟩
  .refine Yi.ret o _ w' [] [(4,i6 b.n),(38,.nilIface),(5,ptr (B1+2)),(7,ptr (u+1))] _ sF (sH o d w' J X C') Tt (by kernel_rfl) (by kernel_rfl) λCN QV Ib zu S tY v8=>?_
   rw[Et]at S;refine aq F hB k S zu 9 [2,0,0,1,2,0,0,1,0,0,0,1] [] [] [(4,i6 b.n),(5,ptr (B1+2))] (λM=>bu 0 (0,0) (.bool false) (M)) 0 48 [false] [4,11] λPF vp H OG yu v7 O5=>?_
   have Ez:Sat (E.Ok o) vp (mJ B1 (B1+1) (B1+2) u (u+1) (kk.lb j) (kk.T t) ((d.l.tk t).q j) .nilIface false++(pM d++(oR (kk.lb j) 8 [i6 (d.l.gt j).st,i6 (d.l.gt j).si,i6 (d.l.gt j).pd,i6 (d.l.gt j).pr,VA] true::fR ⟨(d.f j).g,0,none⟩ 1 (d.f j).v ((d.f j).o+(d.f j).c) true::(fI (kk.T t) J false::((X++R)++(gX d j++E.O o)))))):=H.sat.cast (by kernel_rfl);replace H:St (E.Ok o) Ib 43 _ _ 0 PF vp:=⟨H.env,Ez,H.sz⟩;refine HT F hB k (e:=.nilIface) (nn:=b.n) (b5:=B1+2) (.inl rfl) (by omega) (H.dD _ rfl) OG λa15 VW Uy OE=>?_
   have Wx:VW.heap.size=Ib:=by have:=Uy.sz;omega
   refine aq F hB k OE Uy 1 [] [] [] [(4,i6 b.n),(5,ptr (B1+2))] (λM=>M) 0 50 [false] [4,11,4] λPD Ek x GY Gx Gy O4=>?_
   have T:Sat (E.Ok o) Ek (mJ B1 (B1+1) (B1+2) u (u+1) (kk.lb j) (kk.T t) ((d.l.tk t).q j) .nilIface (decide (b.k≠1))++(pM d++(mL (kk.lb j) (d.l.gt j) (d.f j)++(fI (kk.T t) J false::((X++R)++(gX d j++E.O o)))))):=by
    rw[show decide (b.k≠1)=false by simp[hb]];subst JW;exact x.sat
   refine P8 F (by kernel_rfl) GY f172 func172 _ rfl (by kernel_rfl) 16 (by kernel_rfl) ⟨x.env,T,x.sz⟩ λPE UA GZ=>?_
   refine YO .nilIface (.inl ⟨by omega,rfl⟩) (by have:=x.sz;omega) UA GZ (by have:=x.sz;omega) λZ a2 U n bs qs q1 q2 q3 q4 q5=>?_
   refine QA F q1 q2 f172 func172 (by kernel_rfl) ?_;refine Je F (a:=⟨PD.tmps,[]⟩) (N:=43) (E:=[(4,i6 b.n),(5,ptr (B1+2))]) ⟨x.env.sz,x.env.val⟩ q5 k iK rfl [(0,(0,0),true)] (.tuple #[i6 b.n,.nilIface]) (by kernel_rfl) (by kernel_rfl) ?_;exact K m1 o Z U J X _ b (by omega) (by omega) q3 (by rw[q4];exact pP) (.inl ⟨hb,rfl⟩) (λi hi=>by rw[q4];exact Ya i hi) (λi hi=>by rw[q4];exact DG i hi)
  .obtain⟨q,rfl⟩:∃q,e=.iface 168 (ptr q):=by
    cases gI:b.ch with
    |nil=>
     rcases Av.2.2 with ⟨z,_⟩|⟨_,_,z⟩|⟨z,_⟩
     .omega
     .exact absurd gI z
     .omega
    |cons y ch=>rw[gI]at he;obtain⟨q,_,h,_⟩:=he;exact⟨q,h⟩
   refine Yi.ret o _ w' [] [(4,i6 0),(38,(.iface 168 (ptr q))),(5,ptr (B1+2)),(7,ptr (u+1))] _ sF (sH o d w' J X C') Tt (by kernel_rfl) (by kernel_rfl) λCN QV Ib zu S tY v8=>?_
   rw[Et]at S;refine aq F hB k S zu 9 [2,0,0,1,2,0,0,1,0,0,0,1] [] [] [(4,i6 0),(5,ptr (B1+2))] (λM=>bu 2 (0,0) (.iface 168 (ptr q)) (M)) 0 48 [false] [4,11] λPF vp H OG yu v7 O5=>?_
   have Ez:Sat (E.Ok o) vp (mJ B1 (B1+1) (B1+2) u (u+1) (kk.lb j) (kk.T t) ((d.l.tk t).q j) (.iface 168 (ptr q)) true++(pM d++(oR (kk.lb j) 8 [i6 (d.l.gt j).st,i6 (d.l.gt j).si,i6 (d.l.gt j).pd,i6 (d.l.gt j).pr,VA] true::fR ⟨(d.f j).g,0,none⟩ 1 (d.f j).v ((d.f j).o+(d.f j).c) true::(fI (kk.T t) J false::((X++R)++(gX d j++E.O o)))))):=H.sat.cast (by kernel_rfl);replace H:St (E.Ok o) Ib 43 _ _ 0 PF vp:=⟨H.env,Ez,H.sz⟩;refine HT F hB k (e:=(.iface 168 (ptr q))) (nn:=0) (b5:=B1+2) (.inr ⟨q,rfl⟩) (by omega) (H.dD _ rfl) OG λa15 VW Uy OE=>?_
   have Wx:VW.heap.size=Ib:=by have:=Uy.sz;omega
   refine aq F hB k OE Uy 1 [] [] [] [(4,i6 0),(5,ptr (B1+2))] (λM=>M) 0 50 [false] [4,11,4] λPD Ek x GY Gx Gy O4=>?_
   have T:Sat (E.Ok o) Ek (mJ B1 (B1+1) (B1+2) u (u+1) (kk.lb j) (kk.T t) ((d.l.tk t).q j) (.iface 168 (ptr q)) (decide (b.k≠1))++(pM d++(mL (kk.lb j) (d.l.gt j) (d.f j)++(fI (kk.T t) J false::((X++R)++(gX d j++E.O o)))))):=by
    rw[show decide (b.k≠1)=true by simp[hb]];subst JW;exact x.sat
   refine P8 F (by kernel_rfl) GY f172 func172 _ rfl (by kernel_rfl) 16 (by kernel_rfl) ⟨x.env,T,x.sz⟩ λPE UA GZ=>?_
   refine YO (.iface 168 (ptr q)) (.inr ⟨hb,⟨q,rfl⟩,he⟩) (by have:=x.sz;omega) UA GZ (by have:=x.sz;omega) λZ a2 U n bs qs q1 q2 q3 q4 q5=>?_
   refine QA F q1 q2 f172 func172 (by kernel_rfl) ?_;refine Je F (a:=⟨PD.tmps,[]⟩) (N:=43) (E:=[(4,i6 0),(5,ptr (B1+2))]) ⟨x.env.sz,x.env.val⟩ q5 k iK rfl [(0,(0,0),true)] (.tuple #[i6 0,(.iface 168 (ptr q))]) (by kernel_rfl) (by kernel_rfl) ?_;exact K m1 o Z U J X _ b (by omega) (by omega) q3 (by rw[q4];exact pP) (.inr (.inl ⟨hb,_,rfl,he⟩)) (λi hi=>by rw[q4];exact Ya i hi) (λi hi=>by rw[q4];exact DG i hi)
  .obtain⟨a5,t5,rfl,Tb,Qu⟩:=Yi.Qx
   rw[Et]at Tb
   show E.Ψ o (G ((bb.at a5 t5).raise (jy (.iface 166 (i6 b.n)))) (c::cs)) w'
   rw[raise_at hn.m]
   have T:Sat (E.Ok o) w' (mJ B1 (B1+1) (B1+2) u (u+1) (kk.lb j) (kk.T t) ((d.l.tk t).q j) .nilIface (decide (b.k≠1))++(pM d++(mL (kk.lb j) (d.l.gt j) (d.f j)++(fI (kk.T t) J false::((X++R)++(gX d j++E.O o)))))):=by
    rw[show decide (b.k≠1)=true by simp[hb]];subst JW;exact Tt
   refine V7 F Tb f172 func172 _ rfl (by kernel_rfl) 16 (by kernel_rfl) T λa7' B7' QL XQ Ww=>?_
   refine YO .nilIface (.inl ⟨by omega,rfl⟩) (az _) QL XQ Ww λZ a2 U n bs qs q1 q2 q3 q4 q5=>?_
   refine drb F q1 q2 f172 func172 (by kernel_rfl) ?_;refine F.ow rfl (by rw[iK];exact func169) ?_;exact K m1 o Z U J X (.inr (.iface 166 (i6 b.n))) b (by omega) (by omega) q3 (by rw[q4];exact pP) (.inr (.inr ⟨hb,rfl⟩)) (λi hi=>by rw[q4];exact Ya i hi) (λi hi=>by rw[q4];exact DG i hi)
end
theorem Cu{γ:Type}{E:TE γ}{kk:PK}{Lf:LS}{t:Nat}(W:l7 E kk Lf t):∀n j,j+n=kk.V.nl->eM E kk Lf t j
 |0,j,h=>by have e:j=kk.V.nl:=h;rw[e];exact Pw W
 |n+1,j,h=>by
  have a:=Cu W n (j+1) (by omega);rcases W.V.kd j (by omega)with z|z|z|z
  .exact Jh W (by omega) z a
  .exact J7 W (by omega) z a
  .exact Ny W (by omega) z a
  .exact Uq W (by omega) z a
end Go.Proofs.YtobagnjnbmgidaaGreatDoor
