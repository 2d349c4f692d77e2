import Derived.Test.YtobagnjnbmgidaaGreatDoorS12
set_option linter.all false
set_option maxHeartbeats 0
set_option maxRecDepth 100000
namespace Go.Proofs.YtobagnjnbmgidaaGreatDoor
open Go.Conc Go.RowKit Tryz
variable{b:Bk}{V:Ev0}{b5 g j k m n o aS u:Nat}{wt:Nat->tU}{s:PS}{C M R:aW}{w w':aj}{Z:aC}{e v:ay}{q:aN}{U:cO}
variable{P:aG}{main:Bool}{I:dh}{Ψ:gi}{B t:Nat}{γ:Type}{D:PK}{E:TE γ}
theorem Xe(F:aB P main (DX I) Ψ){a:Act}{d:eC}(f:iE d=true)(k:a.defers=[])(fn:Func)(j:P.funcs[g]? =some fn)(i:fn.results=#[]){b:aC}{e:Act}{c:eC}(h:Ψ (G {b.at e c with mode:=.panicking (je v)} U) w):Ψ (G ((baseD g).at a d) ({b.at e c with mode:=.panicking (je v)}::U)) w:=
 vi F f (F.ctl (λw=>by
  have b:=resultsC_none (P:=P) i a.tmps;simp[G,stepG,unwind,doReturn,Frame.at,baseD,k,j,(b w).1,(b w).2,GStep.after,seen_none]) h)
theorem Jj{J:LS}{L:LS}(a:j<V.nl)(c:(V.ly j).k=4)(a:1<=(V.ly j).e)(h:Fin V J m (some (t,j,none)) L):∃a,m=a+1/\qm V t L/\
 (((L.gt j).st=1/\L.now-(L.gt j).si<(V.ly j).d)\/((L.gt j).st=2/\(L.gt j).pr=(V.ly j).e)->Fin V J a (some (t,j,some (c9 3 j 0))) (L.say t j 7 0))/\
 (¬(((L.gt j).st=1/\L.now-(L.gt j).si<(V.ly j).d)\/((L.gt j).st=2/\(L.gt j).pr=(V.ly j).e))->Fin V J a (some (t,j+1,none)) ((((L.aM t j).cz j).mark t j).say t j 8 0)):=by
 cases m with
 |zero=>exact h.elim
 |succ m=>
  obtain⟨a,d,d,b⟩:=h;have e:(j=V.nl)=False:=by simp;omega
  simp only[LS.step,e,if_false,c,af (show¬(4:Int)=1 by decide),af (show¬(4:Int)=3 by decide),if_true,LS.pass,LS.nV]at b;refine⟨m,rfl,a,λa=>?_,λa=>?_⟩
  .rcases a with a|a
   .simp_all
   .have c:L.aM t j=L:=by unfold LS.aM;simp_all
    simp_all
  .rw[af (λz=>a (.inl z))]at b;rw[af (λz=>?_)]at b
   .exact b
   .by_cases a:(L.gt j).st=1
    .have c:(L.aM t j).gt j=(L.gt j).turn L.now 2:=by unfold LS.aM;rw[ah a];exact r7 ..
     rw[c]at z;have:(0:Int)=(V.ly j).e:=z.2;omega
    .have c:L.aM t j=L:=by unfold LS.aM;simp_all
     simp_all
theorem Gm{J:LS}{L:LS}(c:(V.ly j).k=4)(h:Fin V J m (some (t,j+1,some b)) L):∃a,m=a+1/\qm V t L/\G5 b/\Fin V J a (some (t,j,some b)) (L.count (V.ly j) t j b):=by
 cases m with
 |zero=>exact h.elim
 |succ m=>
  obtain⟨a,a,a,d⟩:=h;have e:(j+1=0)=False:=by simp
  simp only[LS.step,e,if_false,eM,c,af (show¬(4:Int)=1 by decide),if_true]at d;simp_all
theorem AV(X A G C:aW):(X++(A++(G++C))).Perm (A++(G++(X++C))):=by
 have h:=fA X (A++G) C;simp_all
abbrev mE(b2 b3 b5 b6 b7 lb T:Nat)(pq:Int)(e:ay)(fl:Bool):List aH:=[bR b7 [.bool fl],oR b6 0 [i6 pq] false,bR b5 [e],oR b3 0 [ptr T] false,oR b2 0 [ptr lb] false]
theorem Gw(F:aB prog main (DX I) Ψ)(J:HB B I){a0:Act}{B0 p o m l:Nat}{a T:Nat}{wi:ay}{y:ju}{f:Fb}(hg:qR y (s.l.gt j) 1000000000000 0)(Qs:(s.l.gt j).st=1->(s.l.tk t).q j≠(s.l.gt j).pd)(h1:Has C (tQ a wi j s.k.J))(h2:Has C (wF T s.k.A t aS))(h3:Has C (oR a 3 [i6 y.a,i6 y.b,i6 y.c,i6 y.d,i6 y.e] false))(hv:Vc I s.ea s.l.el s.ec)(hf:qv I (s.l.gt j).la f)(yQ:B<=w.heap.size)(h:s.l.el<1000000)(hc:(s.l.tk t).c=t)(hy:(1<=y.a/\y.a<=20)/\(1<=y.c/\y.c<=100)/\(1<=y.e/\y.e<=9))(hb:G5 b)(he:(b.k≠2/\e=.nilIface)\/(b.k=2/\(∃q,e=.iface 168 (ptr q))/\Yu C e b.ch))(V:St I B0 16 [(0,ptr p),(1,ptr m),(2,ptr o),(3,ptr l),(4,ptr b5)] (mE p o b5 m l a T ((s.l.tk t).q j) e (decide (b.k≠1))++(pM s++(mI a (s.l.gt j) f++C))) 0 a0 w)(E:a0.defers=[])(B:w.heap.size=B0)(K:∀k i u g a' w' n bs B,iE (pc prog 172 n bs B)=true->a'.defers=[]->Sat I w' (mE p o b5 m l a T ((s.l.tk t).q j) e (decide (b.k≠1))++(pM {s with ea:=k,ec:=i,vv:=u,f:=upd s.f j g,l:=s.l.count y t j b}++(mI a ((s.l.count y t j b).gt j) g++C)))->Vc I k (s.l.count y t j b).el i->qv I ((s.l.count y t j b).gt j).la g->w.heap.size<=w'.heap.size->Ψ (G ((baseD 172).at a' (pc prog 172 n bs B)) (Z::U)) w'):
 Ψ (G ((baseD 172).at a0 (pc prog 172 0 [] [])) (Z::U)) w:=by
 obtain⟨n,Q⟩:∃n,n=su f (s.l.gt j).la.length:=⟨_,rfl⟩;have R:(b.k≠2/\e=.nilIface)\/(b.k=2/\Yu (mE p o b5 m l a T ((s.l.tk t).q j) e (decide (b.k≠1))++C) e b.ch):=he.imp id λz=>⟨z.1,z.2.2.up λr e=>e.app _⟩
 simp only[mI,<-Q]at V;by_cases hq:(s.l.tk t).q j=(s.l.gt j).pd
 .have P:(s.l.gt j).st=0\/(s.l.gt j).st=2:=by
   rcases hg.st with ⟨z,_⟩|⟨z,_⟩|⟨z,_⟩
   .exact .inl z
   .omega
   omega
  have Na:((s.l.gt j).pd==(s.l.tk t).q j)=true:=by simp[hq]
  rcases he with ⟨e,rfl⟩|⟨e,⟨q,rfl⟩,he⟩
  .refine qk F J E V 10 [4,0,0,1,12,0,2,1,1,0,0,1,4,0,0,1,3,0,0,1,0,0,0,1,2,0,0,1] [2] [5] [(14,.nilIface),(13,.bool (decide (b.k≠1))),(12,ptr T),(11,ptr a)] id 0 10 3 [5] [((s.l.gt j).pd==(s.l.tk t).q j,true)] [] [] λa1 Y L c N O S=>RM F c 15 173 #[ptr a,ptr T,.bool (decide (b.k≠1)),.nilIface] (by kernel_rfl) (by kernel_rfl) (by decide) L λyS d=>GO F J (C:=mE p o b5 m l a T ((s.l.tk t).q j) .nilIface (decide (b.k≠1))++C) (f:=f) hg P ((L.sat.cast (by simp_all)).perm (AV ..)) (h1.app _) (h2.app _) (h3.app _) hv hf (by omega) h hc hq hy hb R ?_;intro k i u g X h4 v x FO;obtain⟨M,H⟩:∃M,M=mE p o b5 m l a T ((s.l.tk t).q j) .nilIface (decide (b.k≠1))++(pM {s with ea:=k,ec:=i,vv:=u,f:=upd s.f j g,l:=s.l.count y t j b}++(mI a ((s.l.count y t j b).gt j) g++C)):=⟨_,rfl⟩;have h5:Sat I X M:=by rw[H];exact h4.perm (AV ..).symm
   refine d _ _ _ h5 λa2 B2 S2 D tM=>qk F J D S2 1 [] [] [] [] id 0 12 3 [5] [] [] [] λa3 W S3 A YF yO mH=>K k i u g a3 W _ _ _ (by kernel_rfl) A (by have:=S3.sat;simp_all) v x (by omega)
  .refine qk F J E V 10 [4,0,0,1,12,0,2,1,1,0,0,1,4,0,0,1,3,0,0,1,0,0,0,1,2,0,0,1] [2] [5] [(14,.iface 168 (ptr q)),(13,.bool (decide (b.k≠1))),(12,ptr T),(11,ptr a)] id 0 10 3 [5] [((s.l.gt j).pd==(s.l.tk t).q j,true)] [] [] λa1 Y L c N O S=>RM F c 15 173 #[ptr a,ptr T,.bool (decide (b.k≠1)),.iface 168 (ptr q)] (by kernel_rfl) (by kernel_rfl) (by decide) L λyS d=>GO F J (C:=mE p o b5 m l a T ((s.l.tk t).q j) (.iface 168 (ptr q)) (decide (b.k≠1))++C) (f:=f) hg P ((L.sat.cast (by simp_all)).perm (AV ..)) (h1.app _) (h2.app _) (h3.app _) hv hf (by omega) h hc hq hy hb R ?_;intro k i u g X h4 v x FO;obtain⟨M,H⟩:∃M,M=mE p o b5 m l a T ((s.l.tk t).q j) (.iface 168 (ptr q)) (decide (b.k≠1))++(pM {s with ea:=k,ec:=i,vv:=u,f:=upd s.f j g,l:=s.l.count y t j b}++(mI a ((s.l.count y t j b).gt j) g++C)):=⟨_,rfl⟩;have h5:Sat I X M:=by rw[H];exact h4.perm (AV ..).symm
   refine d _ _ _ h5 λa2 B2 S2 D tM=>qk F J D S2 1 [] [] [] [] id 0 12 3 [5] [] [] [] λa3 W S3 A YF yO mH=>K k i u g a3 W _ _ _ (by kernel_rfl) A (by have:=S3.sat;simp_all) v x (by omega)
 .have a:s.l.count y t j b=s.l:=by unfold LS.count;simp_all
  have Na:((s.l.gt j).pd==(s.l.tk t).q j)=false:=by grind
  rw[a]at K;refine qk F J E V 6 [4,0,0,1,12,0,2,1,1,0,0,1] [0] [5] [] id 0 6 2 [5] [((s.l.gt j).pd==(s.l.tk t).q j,false)] [] [] λa1 Y L c N O S=>K s.ea s.ec s.vv f a1 Y _ _ _ (by kernel_rfl) c ?_ hv hf (by omega);simp only[mI,<-Q];exact L.sat
def Jo(x y:Bool)(nn:Int)(e:ay)(b5:Nat):Env:=(bif x then[(41,i6 nn)]else[])++((bif y then[(42,e)]else[])++[(4,i6 nn),(5,ptr b5)])
theorem GR(F:aB prog main (DX I) Ψ)(Q:HB B I){x:aC}(P:x.kind=.normal){D:Act}{v:Nat}{nn:Int}{o n:aH}{ds:wN}(N:e=.nilIface\/∃q,e=.iface 168 (ptr q))(J:B<=v)(T:St I v 43 [(4,i6 nn),(5,ptr b5)] (o::n::bR b5 [e]::M) 0 D w)(A:D.defers=ds)(K:∀g w',St I v 43 [(4,i6 nn),(5,ptr b5)] (o::n::bR b5 [e]::M) 0 g w'->g.defers=ds->Ψ (G (x.at g (pc prog 169 49 [false] [4,11,4])) U) w'):
 Ψ (G (x.at D (pc prog 169 48 [false] [4,11])) U) w:=by
 have y:mP (pc prog 169 48 [false] [4,11])=true:=by kernel_rfl
 obtain⟨id,R⟩:∃id,pc prog 169 48 [false] [4,11]=.code (.region id (aL (pc prog 169 48 [false] [4,11])) true)::behind (pc prog 169 48 [false] [4,11]):=by
  unfold mP at y;split at y
  .rename_i id E k h;exact⟨id,by rw[h];rfl⟩
  .cases y
 rw[R];have l:HB v I:=λa wr z=>Q a wr (by omega);have j:x.kind≠.early:=by grind
 refine F.K7 aK [[],[],[0],[0,1,2]] (n:=4) (by kernel_rfl) (by kernel_rfl) (λb a w=>St I v 43 (Jo (b 0) (b 1) nn e b5) (o::n::bR b5 [e]::M) 0 a w/\a.defers=ds) ⟨T,A⟩ (λi _ L b a w C O u t rest H r=>?_) (λb a w C s=>?_)
 .obtain⟨S,p⟩:=C;match i,L with
  |0,_=>
   rw[u]at S;cases d:b 1 with
   |true=>
    rw[d]at S;exact blk F aK l j 1 169 [] [] [] 0 (Jo true true nn e b5) (o::n::bR b5 [e]::M) 0 _ [] [] [] (by kernel_rfl) (by kernel_rfl) eU eU eU S λg w' m c _ _=>r g w' ⟨by simpa [tick,d]using m,c.trans p⟩
   |false=>
    rw[d]at S;exact blk F aK l j 1 169 [] [] [] 0 (Jo true false nn e b5) (o::n::bR b5 [e]::M) 0 _ [] [] [] (by kernel_rfl) (by kernel_rfl) eU eU eU S λg w' m c _ _=>r g w' ⟨by simpa [tick,d]using m,c.trans p⟩
  |1,_=>
   rw[u]at S;cases f:b 0 with
   |true=>
    rw[f]at S;exact blk F aK l j 1 169 [(2,(0,0),true)] [] [] 0 (Jo true true nn e b5) (o::n::bR b5 [e]::M) 0 _ [] [] [] (by kernel_rfl) (by kernel_rfl) eU eU eU S λg w' m c _ _=>r g w' ⟨by simpa [tick,f]using m,c.trans p⟩
   |false=>
    rw[f]at S;exact blk F aK l j 1 169 [(2,(0,0),true)] [] [] 0 (Jo false true nn e b5) (o::n::bR b5 [e]::M) 0 _ [] [] [] (by kernel_rfl) (by kernel_rfl) eU eU eU S λg w' m c _ _=>r g w' ⟨by simpa [tick,f]using m,c.trans p⟩
  |2,_=>
   have f:=t 0 (by simp);rw[f]at S;cases d:b 1 with
   |true=>
    rw[d]at S;exact blk F aK l j 1 169 [] [] [] 0 (Jo true true nn e b5) (o::n::bR b5 [e]::M) 0 _ [] [] [] (by kernel_rfl) (by kernel_rfl) eU eU eU S λg w' m c _ _=>r g w' ⟨by simpa [tick,d,f]using m,c.trans p⟩
   |false=>
    rw[d]at S;exact blk F aK l j 1 169 [] [] [] 0 (Jo true false nn e b5) (o::n::bR b5 [e]::M) 0 _ [] [] [] (by kernel_rfl) (by kernel_rfl) eU eU eU S λg w' m c _ _=>r g w' ⟨by simpa [tick,d,f]using m,c.trans p⟩
  |3,_=>
   have f:=t 0 (by simp);have d:=t 1 (by simp);rw[f,d]at S;rcases N with rfl|⟨q,rfl⟩
   .exact blk F aK l j 1 169 [(2,(0,0),true)] [] [] 0 (Jo true true nn .nilIface b5) (o::n::bR b5 [.nilIface]::M) 0 _ [] [] [] (by kernel_rfl) (by kernel_rfl) eU eU eU S λg w' m c _ _=>r g w' ⟨by simpa [tick,d,f]using m,c.trans p⟩
   .exact blk F aK l j 1 169 [(2,(0,0),true)] [] [] 0 (Jo true true nn (.iface 168 (ptr q)) b5) (o::n::bR b5 [.iface 168 (ptr q)]::M) 0 _ [] [] [] (by kernel_rfl) (by kernel_rfl) eU eU eU S λg w' m c _ _=>r g w' ⟨by simpa [tick,d,f]using m,c.trans p⟩
 .obtain⟨S,p⟩:=C;rw[s 0 (by omega),s 1 (by omega)]at S;have h:=K a w (S.dB _ rfl) p;rw[show pc prog 169 49 [false] [4,11,4]=.inRegion (aL (pc prog 169 48 [false] [4,11])) []::behind (pc prog 169 48 [false] [4,11]) by kernel_rfl]at h;exact h
theorem LS.FA(L:LS)(t j:Nat)(a b c:Int):(L.say t a b c).mark t j=(L.mark t j).say t a b c:=by
 unfold LS.mark LS.say;simp only[upd,if_true]
section
variable{J:LS}
theorem xN(X A R O:aW)(a:aH):(X++(A++(a::(R++O)))).Perm (A++(a::((X++R)++O))):=by
 have h:=fA X (A++[a]) (R++O);simp_all
theorem Py(X A G R O:aW)(a:aH):(X++(A++(G++(a::(R++O))))).Perm (A++(G++(a::((X++R)++O)))):=by
 have h:=fA X (A++G++[a]) (R++O);simp_all
theorem Cn.more{p:γ}(C:Cn E D t p s w v R)(X:aW)(b:∀r∈X,r.row=none)(h:Sat (E.Ok p) w' (X++(pM s++(dO (D.T t) v false::(R++E.P p s)))))(a:w.heap.size<=w'.heap.size):Cn E D t p s w' v (X++R):=
 ⟨h.perm (xN ..),C.pv,C.qi,by rw[dU];exact Flat.app (bO.2 b) C.fl,C.eH.app X,aT C.bd a,C.gu,C.hk,C.ln⟩
theorem Cn.Kv{p:γ}(C:Cn E D t p s w v R)(c:j<D.V.nl)(X:aW)(d:∀r∈X,r.row=none)(h:Sat (E.Ok p) w' (X++(pM s++(gR (D.V.ly j) (D.lb j) (s.l.gt j) (s.f j) (s.lq j)++(dO (D.T t) v false::(R++(gX s j++E.O p)))))))(b:w.heap.size<=w'.heap.size):Cn E D t p s w' v (X++R):=by
 refine C.more X d (h.perm ?_) b;refine eN X ((pQ ..).symm.trans ?_);refine eN _ (List.Perm.cons _ (eN _ ?_));have a:=Yo s (k:=j) (by rw[C.hk];exact c);rw[C.hk]at a;rw[<-dU];exact(a.append_right _).symm
theorem CQ(c:s.k=D)(a:j<D.V.nl)(R O:aW)(a:aH):(pM s++(a::(R++(gS s++O)))).Perm (pM s++(gR (D.V.ly j) (D.lb j) (s.l.gt j) (s.f j) (s.lq j)++(a::(R++(gX s j++O))))):=by
 have b:=Yo s (k:=j) (by simp_all);rw[c]at b;refine List.Perm.trans ?_ (pQ ..);refine eN _ (List.Perm.cons _ (eN _ ?_));rw[<-dU];exact b.append_right _
theorem RZ(W:jF E D J t)(A:j<D.V.nl)(hk:(D.V.ly j).k=4)(IH:dV E D J t (j+1)):dV E D J t j:=by
 intro m p s w v R c U C w m K;rw[show iq D.V j=169 by unfold iq;grind];have F:=W.f p;have S:=W.hB p;have m:=C.bd;have hV:=W.V.br j A hk;obtain⟨m0,rfl,hs,Hh,Vv⟩:=Jj A hk hV.2.2.2.2.1 w;have hg:=hs.gt j A (by omega);have m:=hs.now;have XA:∀g f q,gR (D.V.ly j) (D.lb j) g f q=mI (D.lb j) g f:=λg f q=>by unfold gR;simp_all
 have f:=C.hk;have hA:∀{d:PS},d.k=D->d.k.A=D.A:=λh=>by rw[h]
 have hJ:∀{d:PS},d.k=D->d.k.J=D.J:=λh=>by rw[h]
 have FT:=C.eH.lay j A;have g:=C.pv.fb j (by simp_all) (by simp_all);obtain⟨ty,YY,IZ⟩:=xT D (j+1);have w:=C.sat;refine cJ func169 w 43 λbb a0 a hn k qh tN S0 P9=>aq F S k tN S0 12 [2,0,0,1,1,0,0,1] [] [] [(9,ptr (D.T t)),(8,ptr (D.lb j)),(5,ptr (a+2)),(3,ptr (a+1)),(2,ptr a)] (λM=>bR (a+2) [.nilIface]::(bR (a+1) [ptr (D.T t)]::(bR (a) [ptr (D.lb j)]::(M)))) 3 12 1 [] λw w1 S1 w zS Dx o9=>?_;have C1:Cn E D t p s w1 v ([bR (a+2) [.nilIface],oR (a+1) 0 [ptr (D.T t)] false,oR a 0 [ptr (D.lb j)] false]++R):=C.more [bR (a+2) [.nilIface],oR (a+1) 0 [ptr (D.T t)] false,oR a 0 [ptr (D.lb j)] false] (λr B=>by grind) (Sat.yg [bR (a+2) [.nilIface],oR (a+1) 0 [ptr (D.T t)] false] (Sat.yg [bR (a+2) [.nilIface]] S1.sat)) (by omega);have h1:=C1.open A;rw[XA]at h1;refine bu F k w S1 10 171 #[ptr (D.lb j),ptr (D.T t)] λw I7=>MP F S (j:=j) (y:=D.V.ly j) hg h1 (by rw[hJ f];exact(C1.eH.lay j A).pre _|>.cons) (by rw[hA f];exact(C1.eH.nH t W.tn).pre _|>.cons) ((C1.eH.Lh j A hk).pre _|>.cons) C.pv.jr g (by omega) hs.el hs.tc m hV.2.2.2.2 (λhc P h2 yP=>?_) (λhc ea ec vv f' P h2 Uz YR yP=>?_)
 .have C2:Cn E D t p s P v ([bR (a+2) [.nilIface],oR (a+1) 0 [ptr (D.T t)] false,oR a 0 [ptr (D.lb j)] false]++R):=C1.Kv A [] (λr B=>by cases B) (by simp_all) (by omega);have Nx:=C2.bd;refine I7 _ _ _ (C2.sat.perm (xN ..).symm) λa2 B2 S2 DF tM=>aq F S k DF S2 4 [] [3] [] [(5,ptr (a+2)),(3,ptr (a+1)),(2,ptr a)] (λM=>M) 0 17 3 [] λa3 w3 S3 CJ YF yO mH=>?_;have C3:Cn E D t p s w3 v ([bR (a+2) [.nilIface],oR (a+1) 0 [ptr (D.T t)] false,oR a 0 [ptr (D.lb j)] false]++R):=C.more _ (λr B=>by simp at B;rcases B with rfl|rfl|rfl<;>rfl) S3.sat (by omega);have tO:∀d w' q,Cn E D t p d w' v (oR q 0 [i6 3,i6 j,i6 0,.nilIface] false::([bR (a+2) [.nilIface],oR (a+1) 0 [ptr (D.T t)] false,oR a 0 [ptr (D.lb j)] false]++R))->Sat (E.Ok p) w' [oR a 0 [ptr (D.lb j)] false,oR (a+1) 0 [ptr (D.T t)] false]:=λd w' q V=>by
   refine V.sat.ED λr B=>?_;simp only[ak,bH,or_false]at B;rcases B with rfl|rfl
   .exact Has.in (X:=[oR q 0 [i6 3,i6 j,i6 0,.nilIface] false]) ⟨rfl,2,rfl⟩
   .exact Has.in (X:=[oR q 0 [i6 3,i6 j,i6 0,.nilIface] false]) ⟨rfl,1,rfl⟩
  have VK:Sat (E.Ok p) w3 [oR a 0 [ptr (D.lb j)] false,oR (a+1) 0 [ptr (D.T t)] false]:=by
   refine C3.sat.ED λr B=>?_;simp only[ak,bH,or_false]at B;rcases B with rfl|rfl
   .exact Has.in (X:=[]) ⟨rfl,2,rfl⟩
   .exact Has.in (X:=[]) ⟨rfl,1,rfl⟩
  refine TL W.f aK W.hB k 7 4 [oR a 0 [ptr (D.lb j)] false,oR (a+1) 0 [ptr (D.T t)] false] (Hq [0,0,0,1,1,0,0,1]) [(14,ptr (D.lb j)),(15,ptr (D.T t))] 16 168 #[ptr (D.lb j),ptr (D.T t)] (by kernel_rfl) (by kernel_rfl) (by kernel_rfl) (by kernel_rfl) (by kernel_rfl) S3 VK (by omega) λZ w4 f Bj g=>rL W (w:=w4) {C3 with sat:=f.perm (xN ..),bd:=by omega} A hs λH w5 q C5 e5 Dw=>?_;have QY:=C5.bd;have Q8:=C5.sat.perm (gM (A:=pM H) (X:=[oR q 0 [i6 3,i6 j,i6 0,.nilIface] false]) (Y:=[bR (a+2) [.nilIface],oR (a+1) 0 [ptr (D.T t)] false,oR a 0 [ptr (D.lb j)] false]));refine g.ret p _ w5 [] [(17,i6 0),(18,.iface 168 (ptr q)),(5,ptr (a+2))] _ QY (tO H w5 q C5) Q8 (by kernel_rfl) (by kernel_rfl) λa6 w6 f S6 DE YG Hf=>?_;rw[CJ]at DE;refine aq F S k DE S6 3 [0,0,0,1] [] [] [(4,i6 0),(5,ptr (a+2))] (λM=>bh 0 (0,0) (.iface 168 (ptr q)) (M)) 0 21 3 [7] λa7 f S7 CI g g g=>G6 F (a:=a7) (N:=43) (E:=[(4,i6 0),(5,ptr (a+2))]) S7.env S7.sat k qh CI [(0,(0,0),true)] (.tuple #[i6 0,.iface 168 (ptr q)]) (by kernel_rfl) (by kernel_rfl) ?_|>vi F (by kernel_rfl);have XD:=Hh hc;rw[<-e5]at XD;exact K m0 p H f v [oR q 0 [i6 3,i6 j,i6 0,.nilIface] false] (.inl (.tuple #[i6 0,.iface 168 (ptr q)])) (c9 3 j 0) (by omega) (by omega) ⟨S7.sat.tail.tail.tail,C5.pv,C5.qi,Flat.OC (X:=[oR q 0 [i6 3,i6 j,i6 0,.nilIface] false]) (Y:=[bR (a+2) [.nilIface],oR (a+1) 0 [ptr (D.T t)] false,oR a 0 [ptr (D.lb j)] false]) C5.fl,C.eH.cons,by omega,C5.gu,C5.hk,C5.ln⟩ XD (.inr (.inl ⟨rfl,_,rfl,q,.nilIface,rfl,⟨rfl,0,rfl⟩,rfl⟩)) (λi T=>by rw[e5];rfl) (λi T=>by rw[e5];rfl)
 .have C2:=C1.shut A LG.Tf (by simp_all;omega) Uz (λ_=>YR) (λz=>by omega) (w':=P) (by omega);have L:=Vv hc;obtain⟨Q,CG⟩:∃Q:PS,Q={s with ea:=ea,ec:=ec,vv:=vv,f:=upd s.f j f',l:=(s.l.aM t j).cz j}:=⟨_,rfl⟩;rw[<-CG]at C2;have e2:Q.l=(s.l.aM t j).cz j:=by rw[CG]
  rw[<-e2]at L;have hs3:qm D.V t ((Q.l.mark t j).say t j 8 0):=by
   cases m0 with
   |zero=>exact L.elim
   |succ m0=>exact L.1
  have f:Q.l.el+1<1000000:=hs3.el;have f:(Q.l.tk t).c=t:=by rw[e2,LG.Tf.tc];exact hs.tc
  have Nx:=C2.bd;refine I7 _ _ _ (C2.sat.perm (xN ..).symm) λa2 B2 S2 DF tM=>aq F S k DF S2 5 [] [1] [] [(5,ptr (a+2)),(3,ptr (a+1)),(2,ptr a)] (λM=>M) 0 18 2 [] λa3 w3 S3 CJ YF yO mH=>aq F S k CJ S3 1 [2,0,0,1,1,0,0,1] [] [4] [(22,ptr (D.T t)),(21,ptr (D.lb j)),(5,ptr (a+2)),(3,ptr (a+1)),(2,ptr a)] (λM=>M) 0 19 2 [4] λg w4 m g Bj w w=>bu F k g m 23 149 #[ptr (D.lb j),ptr (D.T t),i6 8,i6 0] λg VB=>iU W {C2 with sat:=m.sat.perm (xN ..),bd:=by omega} (by omega) f (C1.eH.lay j A) λH w5 C5 e5 Dw=>?_;have QY:=C5.bd;have Q8:=(C5.open A).perm (Py ..).symm;rw[XA]at Q8;obtain⟨f,FV⟩:∃f,f=su (H.f j) (H.l.gt j).la.length:=⟨_,rfl⟩;simp only[mI,<-FV]at Q8;refine VB _ _ _ Q8 λa5 o m f g=>aq F S k f m 15 [2,0,0,1,10,0,2,1,1,0,0,1,0,0,0,1] [] [] [(28,.func (Fn.func 172) #[] #[ptr a,ptr o,ptr (a+1),ptr (o+1),ptr (a+2)]),(7,ptr (o+1)),(5,ptr (a+2)),(3,ptr (a+1)),(2,ptr a)] (λM=>bR (o+1) [.bool true]::(bR (o) [i6 (H.l.gt j).pd]::(M))) 2 35 2 [4] λa6 w6 S6 DE YG Hf f=>Wc F hn DE 172 [ptr a,ptr o,ptr (a+1),ptr (o+1),ptr (a+2)] (by kernel_rfl) (by kernel_rfl) (by kernel_rfl) S6 λa7 S7 CI=>aq F S k CI S7 2 [] [] [] [(7,ptr (o+1)),(5,ptr (a+2)),(3,ptr (a+1)),(2,ptr a)] (λM=>M) 2 38 2 [4] λa8 w8 S8 Nn f f f=>?_;have Sr:Cn E D t p H w5 v R:=C5.drop C.eH;obtain⟨s8,Qn⟩:∃s8:PS,s8={H with l:=H.l.mark t j}:=⟨_,rfl⟩
  have VL:Sat (E.Ok p) w8 (mE a (a+1) (a+2) o (o+1) (D.lb j) (D.T t) (H.l.gt j).pd .nilIface true++(pM s8++(mI (D.lb j) (s8.l.gt j) (s8.f j)++(dO (D.T t) v false::(R++(gX s8 j++E.O p)))))):=by
   rw[Qn];have h:=Sat.yg [bR (o+1) [.bool true]] S8.sat;simp only[mI];rw[FV]at h;exact h
  have f:Cn E D t p s8 w8 v R:=by
   have h:=Sr.shut (ea:=H.ea) (ec:=H.ec) (vv:=H.vv) (f':=H.f j) A (LG.mark (L:=H.l)) (w':=w8) (by rw[XA,fU];rw[Qn]at VL;exact VL.tail.tail.tail.tail.tail) Sr.pv.jr (λ_=>Sr.pv.fb j (by rw[Sr.hk];exact A) (by rw[Sr.hk];exact hk)) (λ_=>rfl) (by omega);rw[fU]at h;simp_all
  have C8:Cn E D t p s8 w8 v (mE a (a+1) (a+2) o (o+1) (D.lb j) (D.T t) (H.l.gt j).pd .nilIface true++R):=f.Kv A _ (λr B=>by simp at B;rcases B with rfl|rfl|rfl|rfl|rfl<;>rfl) (by rw[XA];exact VL) (az _);have e8:s8.l=(Q.l.mark t j).say t j 8 0:=by rw[Qn,<-LS.FA,<-e5]
  rw[<-e8]at L;have hq8:(s8.l.tk t).q j=(H.l.gt j).pd:=by rw[Qn];simp[LS.mark,upd]
  have tO:∀l d w' I X,Cn E D t l d w' I (X++(mE a (a+1) (a+2) o (o+1) (D.lb j) (D.T t) (H.l.gt j).pd .nilIface true++R))->Sat (E.Ok l) w' [oR a 0 [ptr (D.lb j)] false,oR (a+1) 0 [ptr (D.T t)] false,tQ (D.lb j) (.iface ty (ptr (D.lb (j+1)))) j D.J]:=by
   intro l d w' I X V;refine V.sat.ED λr B=>?_;simp only[ak,bH,or_false]at B;rcases B with rfl|rfl|rfl
   .exact Has.in ⟨rfl,4,rfl⟩
   .exact Has.in ⟨rfl,3,rfl⟩
   .rw[<-YY];exact Has.in (FT.app _)
  unfold dV at IH;generalize iq D.V (j+1)=gf at*;have f:=C8.sat;replace S8:St (E.Ok p) o 43 _ _ 2 a8 w8:=⟨S8.env,f,S8.sz⟩;refine TL W.f aK W.hB k 11 6 [oR a 0 [ptr (D.lb j)] false,oR (a+1) 0 [ptr (D.T t)] false,tQ (D.lb j) (.iface ty (ptr (D.lb (j+1)))) j D.J] (Hq [0,0,0,1,2,0,0,1,1,0,0,1]) [(34,.iface ty (ptr (D.lb (j+1)))),(35,ptr (D.T t))] 36 gf #[ptr (D.lb (j+1)),ptr (D.T t)] (by kernel_rfl) (by kernel_rfl) (by kernel_rfl) (by kernel_rfl) (by rcases IZ with ⟨rfl,rfl⟩|⟨rfl,rfl⟩|⟨rfl,rfl⟩|⟨rfl,rfl⟩|⟨rfl,rfl⟩|⟨rfl,rfl⟩<;>kernel_rfl) S8 (tO p s8 w8 v [] C8) (by omega) λZ w9 VN Tl VP=>IH m0 p s8 w9 v _ Z (c::U) {C8 with sat:=VN,bd:=by omega} L (by omega) λf l d w' I X r b f f V f B Jc DG=>?_;obtain⟨m1,rfl,FR,Hj,I5⟩:=Gm hk f;have Ny:=V.bd;replace F:=W.f l;replace S:=W.hB l;have f:=V.hk;have g:(d.l.tk t).q j=(H.l.gt j).pd:=(DG j (by omega)).trans hq8;rw[<-g]at V tO;have OP:∀i,i<j->((d.l.count (D.V.ly j) t j b).tk t).a i=(s.l.tk t).a i:=λi T=>by
   rw[(LG.count (D.V.ly j) b).ta,Jc i (by omega),e8,(LG.say (j:=j) ..).ta,LG.mark.ta,e2,LG.Tf.ta]
  have Qs:∀i,i<j->((d.l.count (D.V.ly j) t j b).tk t).q i=(s.l.tk t).q i:=λi T=>by
   rw[(LG.count (D.V.ly j) b).tq i (by omega),DG i (by omega),e8,(LG.say (j:=j) ..).tq i (by omega),LG.mark.tq i (by omega),e2,LG.Tf.tq i (by omega)]
  have g:=V.sat.perm (gM (A:=pM d));have m:Cn E D t l d w' I (X++R):=⟨g.tail.tail.tail.tail.tail,V.pv,V.qi,V.fl.OC,C.eH.app X,Ny,V.gu,f,V.ln⟩;have p:=m.pv.fb j (by rw[f];exact A) (by rw[f];exact hk);have Q7:=g.perm (eN _ (CQ f A (X++R) (E.O l) (dO (D.T t) I false)));rw[XA]at Q7
  have Wd:∀(e:ay){Z:aC}{g:cO}{a0:Act}{w1:aj}{s:Nat},(b.k≠2/\e=.nilIface)\/(b.k=2/\(∃q,e=.iface 168 (ptr q))/\Yu X e b.ch)->w'.heap.size<=w1.heap.size->St (E.Ok l) s 16 [(0,ptr a),(1,ptr o),(2,ptr (a+1)),(3,ptr (o+1)),(4,ptr (a+2))] (mE a (a+1) (a+2) o (o+1) (D.lb j) (D.T t) ((d.l.tk t).q j) e (decide (b.k≠1))++(pM d++(mI (D.lb j) (d.l.gt j) (d.f j)++(dO (D.T t) I false::((X++R)++(gX d j++E.O l)))))) 0 a0 w1->a0.defers=[]->w1.heap.size=s->
   (∀Q a2 P n bs qs,iE (pc prog 172 n bs qs)=true->a2.defers=[]->Cn E D t l Q P I (X++R)->Q.l=d.l.count (D.V.ly j) t j b->Sat (E.Ok l) P [bR (a+2) [e]]->E.Ψ l (G ((baseD 172).at a2 (pc prog 172 n bs qs)) (Z::g)) P)->E.Ψ l (G ((baseD 172).at a0 (pc prog 172 0 [] [])) (Z::g)) w1:=by
   intro e Z g a0 w1 s he Dx S0 tN P9 KK;refine Gw F S (j:=j) (y:=D.V.ly j) (b:=b) (f:=d.f j) (FR.gt j A (by omega)) (FR.q j A hk) (by rw[hJ f];exact(((C.eH.lay j A).app X).pre _).cons) (by rw[hA f];exact(((C.eH.nH t W.tn).app X).pre _).cons) ((((C.eH.Lh j A hk).app X).pre _).cons) m.pv.jr p (by omega) FR.el FR.tc ⟨hV.1,hV.2.2.1,hV.2.2.2.2⟩ Hj (he.imp id λz=>⟨z.1,z.2.1,z.2.2.up λr B=>((B.pre R).pre _).cons⟩) S0 tN P9 λea ec vv f2 a2 P n bs qs q1 q2 q3 q4 q5 f=>?_;have f:=m.shut A (LG.count (D.V.ly j) b) (w':=P) (by rw[XA];exact q3.tail.tail.tail.tail.tail) q4 (λ_=>q5) (λz=>by omega) (by omega);exact KK _ a2 P n bs qs q1 q2 f rfl (q3.sub (by simp))
  obtain⟨TH,Y⟩:∃TH,TH=su (d.f j) (d.l.gt j).la.length:=⟨_,rfl⟩;simp only[mI,<-Y]at Q7;rcases B with ⟨hb,rfl⟩|⟨hb,e,rfl,he⟩|⟨hb,rfl⟩
  .refine VP.ret l _ w' [] [(4,i6 b.n),(38,.nilIface),(5,ptr (a+2)),(7,ptr (o+1))] _ Ny (tO l d w' I X V) Q7 (by kernel_rfl) (by kernel_rfl) λDq Yf Ls yU N IU IX=>?_;rw[Nn]at N;refine aq F S k N yU 9 [2,0,0,1,2,0,0,1,0,0,0,1] [] [] [(4,i6 b.n),(5,ptr (a+2))] (λM=>bh 0 (0,0) (.bool false) (M)) 0 48 2 [4,11] λOX HH x Ns MY MZ NP=>?_;have KV:Sat (E.Ok l) HH (mE a (a+1) (a+2) o (o+1) (D.lb j) (D.T t) ((d.l.tk t).q j) .nilIface false++(pM d++(oR (D.lb j) 8 [i6 (d.l.gt j).st,i6 (d.l.gt j).si,i6 (d.l.gt j).pd,i6 (d.l.gt j).pr,TH] true::fR ⟨(d.f j).g,0,none⟩ 1 (d.f j).v ((d.f j).o+(d.f j).c) true::(dO (D.T t) I false::((X++R)++(gX d j++E.O l)))))):=x.sat.cast (by kernel_rfl);replace x:St (E.Ok l) Ls 43 _ _ 0 OX HH:=⟨x.env,KV,x.sz⟩;refine GR F S k (e:=.nilIface) (nn:=b.n) (b5:=a+2) (.inl rfl) (by omega) (x.dB _ rfl) Ns λa15 TZ R9 Np=>?_;have Ur:TZ.heap.size=Ls:=by have:=R9.sz;omega
   refine aq F S k Np R9 1 [] [] [] [(4,i6 b.n),(5,ptr (a+2))] (λM=>M) 0 50 2 [4,11,4] λOW LX u Nq IQ IW V4=>?_;have O:Sat (E.Ok l) LX (mE a (a+1) (a+2) o (o+1) (D.lb j) (D.T t) ((d.l.tk t).q j) .nilIface (decide (b.k≠1))++(pM d++(mI (D.lb j) (d.l.gt j) (d.f j)++(dO (D.T t) I false::((X++R)++(gX d j++E.O l)))))):=by
    rw[show decide (b.k≠1)=false by simp[hb]];subst Y;exact u.sat
   refine Mj F (by kernel_rfl) Nq Hr f172 func172 _ rfl (by kernel_rfl) 16 (by kernel_rfl) ⟨u.env,O,u.sz⟩ λTN Ws Nr=>Wd .nilIface (.inl ⟨by omega,rfl⟩) (by omega) Ws Nr (by omega) λQ a2 P n bs qs q1 q2 q3 q4 q5=>NW F q1 q2 f172 func172 (by kernel_rfl) ?_;refine G6 F (a:=⟨OW.tmps,[]⟩) (N:=43) (E:=[(4,i6 b.n),(5,ptr (a+2))]) ⟨u.env.sz,u.env.val⟩ q5 k qh rfl [(0,(0,0),true)] (.tuple #[i6 b.n,.nilIface]) (by kernel_rfl) (by kernel_rfl) ?_;exact K m1 l Q P I X _ b (by omega) (by omega) q3 (by rw[q4];exact I5) (.inl ⟨hb,rfl⟩) (λi T=>by rw[q4];exact OP i T) (λi T=>by rw[q4];exact Qs i T)
  .obtain⟨q,rfl⟩:∃q,e=.iface 168 (ptr q):=by
    cases mQ:b.ch with
    |nil=>
     rcases Hj.2.2 with ⟨z,_⟩|⟨_,_,z⟩|⟨z,_⟩
     .omega
     .exact absurd mQ z
     .omega
    |cons y ch=>rw[mQ]at he;obtain⟨q,_,h,_⟩:=he;exact⟨q,h⟩
   refine VP.ret l _ w' [] [(4,i6 0),(38,(.iface 168 (ptr q))),(5,ptr (a+2)),(7,ptr (o+1))] _ Ny (tO l d w' I X V) Q7 (by kernel_rfl) (by kernel_rfl) λDq Yf Ls yU N IU IX=>?_;rw[Nn]at N;refine aq F S k N yU 9 [2,0,0,1,2,0,0,1,0,0,0,1] [] [] [(4,i6 0),(5,ptr (a+2))] (λM=>bh 2 (0,0) (.iface 168 (ptr q)) (M)) 0 48 2 [4,11] λOX HH x Ns MY MZ NP=>?_;have KV:Sat (E.Ok l) HH (mE a (a+1) (a+2) o (o+1) (D.lb j) (D.T t) ((d.l.tk t).q j) (.iface 168 (ptr q)) true++(pM d++(oR (D.lb j) 8 [i6 (d.l.gt j).st,i6 (d.l.gt j).si,i6 (d.l.gt j).pd,i6 (d.l.gt j).pr,TH] true::fR ⟨(d.f j).g,0,none⟩ 1 (d.f j).v ((d.f j).o+(d.f j).c) true::(dO (D.T t) I false::((X++R)++(gX d j++E.O l)))))):=x.sat.cast (by kernel_rfl);replace x:St (E.Ok l) Ls 43 _ _ 0 OX HH:=⟨x.env,KV,x.sz⟩;refine GR F S k (e:=(.iface 168 (ptr q))) (nn:=0) (b5:=a+2) (.inr ⟨q,rfl⟩) (by omega) (x.dB _ rfl) Ns λa15 TZ R9 Np=>?_;have Ur:TZ.heap.size=Ls:=by have:=R9.sz;omega
   refine aq F S k Np R9 1 [] [] [] [(4,i6 0),(5,ptr (a+2))] (λM=>M) 0 50 2 [4,11,4] λOW LX u Nq IQ IW V4=>?_;have O:Sat (E.Ok l) LX (mE a (a+1) (a+2) o (o+1) (D.lb j) (D.T t) ((d.l.tk t).q j) (.iface 168 (ptr q)) (decide (b.k≠1))++(pM d++(mI (D.lb j) (d.l.gt j) (d.f j)++(dO (D.T t) I false::((X++R)++(gX d j++E.O l)))))):=by
    rw[show decide (b.k≠1)=true by simp[hb]];subst Y;exact u.sat
   refine Mj F (by kernel_rfl) Nq Hr f172 func172 _ rfl (by kernel_rfl) 16 (by kernel_rfl) ⟨u.env,O,u.sz⟩ λTN Ws Nr=>Wd (.iface 168 (ptr q)) (.inr ⟨hb,⟨q,rfl⟩,he⟩) (by omega) Ws Nr (by omega) λQ a2 P n bs qs q1 q2 q3 q4 q5=>NW F q1 q2 f172 func172 (by kernel_rfl) ?_;refine G6 F (a:=⟨OW.tmps,[]⟩) (N:=43) (E:=[(4,i6 0),(5,ptr (a+2))]) ⟨u.env.sz,u.env.val⟩ q5 k qh rfl [(0,(0,0),true)] (.tuple #[i6 0,(.iface 168 (ptr q))]) (by kernel_rfl) (by kernel_rfl) ?_;exact K m1 l Q P I X _ b (by omega) (by omega) q3 (by rw[q4];exact I5) (.inr (.inl ⟨hb,_,rfl,he⟩)) (λi T=>by rw[q4];exact OP i T) (λi T=>by rw[q4];exact Qs i T)
  .obtain⟨a5,t5,rfl,QT,e⟩:=VP.NO;rw[Nn]at QT;show E.Ψ l (G ((bb.at a5 t5).raise (je (.iface 166 (i6 b.n)))) (c::U)) w';rw[raise_at hn.m];have O:Sat (E.Ok l) w' (mE a (a+1) (a+2) o (o+1) (D.lb j) (D.T t) ((d.l.tk t).q j) .nilIface (decide (b.k≠1))++(pM d++(mI (D.lb j) (d.l.gt j) (d.f j)++(dO (D.T t) I false::((X++R)++(gX d j++E.O l)))))):=by
    rw[show decide (b.k≠1)=true by simp[hb]];subst Y;exact Q7
   refine Tc F QT Hr f172 func172 _ rfl (by kernel_rfl) 16 (by kernel_rfl) O λa a d c a=>Wd .nilIface (.inl ⟨by omega,rfl⟩) (az _) d c a λQ a2 P n bs qs q1 q2 q3 q4 q5=>Xe F q1 q2 f172 func172 (by kernel_rfl) ?_;refine F.lJ rfl (by rw[qh];rfl) ?_;exact K m1 l Q P I X (.inr (.iface 166 (i6 b.n))) b (by omega) (by omega) q3 (by rw[q4];exact I5) (.inr (.inr ⟨hb,rfl⟩)) (λi T=>by rw[q4];exact OP i T) (λi T=>by rw[q4];exact Qs i T)
end
def Lr(I:dh)(Ψ:gi)(Z:aC)(U:cO)(w:aj)(s:PS)(C:aW)(n:Nat):Prop:=
 (¬((s.l.wt n).x=false/\(s.l.wt n).e=false)->∀w',Sat I w' (pM s++(wR s n++C))->w.heap.size<=w'.heap.size->Ψ (G (Z.finish (.bool false)) U) w')/\
 ((s.l.wt n).x=false->(s.l.wt n).e=false->∀i en eb ba bw w',i<=s.q.length->Sat I w' (pM (s.uQ n i en eb ba bw)++(wR (s.uQ n i en eb ba bw) n++(oR ba 0 [ptr s.k.A] false::oR bw 0 [ptr (s.wb n)] false::C)))->PV I (s.uQ n i en eb ba bw) (bA (s.uQ n i en eb ba bw))->QI (s.uQ n i en eb ba bw)->w.heap.size<=w'.heap.size->Ψ (G (Z.finish (.bool true)) U) w')
theorem Rp(F:aB prog main (DX I) Ψ)(m:HB B I)(x:n<s.l.wl)(t:(s.l.wt n).t=(u:Int))(A:Sat I w (pM s++(wR s n++C)))(j:Has C (wF (s.k.T u) s.k.A u aS))(E:PV I s (bA s))(Q:QI s)(H:Flat C)(b:B<=w.heap.size)(v:s.q.length<1000000)(b:0<=s.l.now/\s.l.now<1000000000000)(K:Lr I Ψ Z U w s C n):
 Ψ (G (Frame.enter prog 182 #[ptr (s.wb n),i6 2] .normal) (Z::U)) w:=by
 have d:=A.get ((j.app (wR s n)).app (pM s));unfold wR at d;rw[t,mY]at d;replace A:=d;refine cJ func182 A 29 λb b a b c l h D b=>?_;by_cases e:(s.l.wt n).x=false/\(s.l.wt n).e=false
 .have k:nJ (s.l.wt n)=0:=by unfold nJ;rw[e.1,e.2];rfl
  rw[k]at D;refine aq F m c h D 38 [0,0,0,1,9,0,0,1,0,0,0,1,9,0,0,1,0,0,0,1,10,0,0,1,1,0,0,1,0,0,0,1,0,0,0,1,0,0,0,1,3,0,0,1] [1] [6] [(27,.func (Fn.func 183) #[] #[ptr (a+1),ptr a]),(26,i6 s.l.now),(22,ptr s.k.A)] (λM=>bR (a+1) [ptr s.k.A]::(bR (a) [ptr (s.wb n)]::(bh 8 (0,0) (i6 2) (M)))) 2 38 2 [6] λb f o b p q j=>?_;have B:Sat I f (bR (a+1) [ptr s.k.A]::bR a [ptr (s.wb n)]::wF (s.k.T u) s.k.A u aS::(pM s++(oR (s.wb n) 1 [i6 2] true::oR (s.wb n) 0 [ptr (s.k.T u)] false::C))):=o.sat.cast (by kernel_rfl);have w:Sat I f (pM s++(oR (s.wb n) 1 [i6 2] true::oR (s.wb n) 0 [ptr (s.k.T u)] false::oR (a+1) 0 [ptr s.k.A] false::oR a 0 [ptr (s.wb n)] false::C)):=by
   have j:Sat I f (oR (a+1) 0 [ptr s.k.A] false::oR a 0 [ptr (s.wb n)] false::(pM s++(oR (s.wb n) 1 [i6 2] true::oR (s.wb n) 0 [ptr (s.k.T u)] false::C))):=Sat.BC (A:=[_,_]) (Sat.yg [_] B.fix);refine j.perm ?_;have:=fA [oR (a+1) 0 [ptr s.k.A] false,oR a 0 [ptr (s.wb n)] false] (pM s++[oR (s.wb n) 1 [i6 2] true,oR (s.wb n) 0 [ptr (s.k.T u)] false]) C;simpa using this
  refine bu F c b o 28 49 #[ptr s.k.A,i6 s.l.now,.func (Fn.func 183) #[] #[ptr (a+1),ptr a]] λb j=>Kq F m s.l.now (.func 183) #[] #[ptr (a+1),ptr a] w E ((((H.cons rfl).cons rfl).cons rfl).cons rfl) (by omega) (by rw[jT];exact v) λi B C b y v w b G=>j _ _ _ w λj j G j w=>?_;rw[jT]at y;refine bB F m c l j G 5 [] [] [] 4 (.bool true) (λM=>M) 0 44 2 [6] λj G w w=>?_;obtain⟨H,w⟩:=Q.uQ (en:=B) (eb:=C) (ba:=a+1) (bw:=a) x y v;refine K.2 e.1 e.2 i B C (a+1) a j y ?_ ?_ H (by omega)
  .have j:wR (s.uQ n i B C (a+1) a) n=[oR (s.wb n) 1 [i6 2] true,oR (s.wb n) 0 [ptr (s.k.T u)] false]:=by
    unfold wR;simp[LS.dg,LS.put,upd,nJ,t]
   rw[j];exact G.sat
  .rw[w];exact⟨b.jr,b.en,b.eo,b.fb,b.rm,λr g=>by
    rcases ak.1 g with rfl|g
    .exact⟨rfl,rfl⟩
    .rcases ak.1 g with rfl|g
     .exact⟨rfl,rfl⟩
     .exact E.cx r g⟩
 .have k:nJ (s.l.wt n)≠0:=by unfold nJ;intro z;apply e;revert z;cases (s.l.wt n).x<;>cases (s.l.wt n).e<;>decide
  refine oH F m c l h D 19 [0,0,0,1,9,0,0,1] [2] [] 4 (.bool false) (λM=>bR (a) [ptr (s.wb n)]::(M)) 1 19 3 [] [(nJ (s.l.wt n) !=0,true)] [] [] λf o p q=>K.1 e f ?_ (by omega);unfold wR;rw[t,mY];exact o.sat.tail.tail
theorem N6(F:aB prog main (DX I) Ψ)(e:HB B I)(c:n<s.l.wl)(l:(s.l.wt n).t=(u:Int))(a:Sat I w (pM s++(wR s n++C)))(o:Has C (wF (s.k.T u) s.k.A u aS))(k:PV I s (bA s))(Q:QI s)(p:Flat C)(b:B<=w.heap.size)(m:s.q.length<1000000)(f:0<=s.l.now/\s.l.now<1000000000000)(K:Lr I Ψ Z U w s C n):
 Ψ (G (Frame.enter prog 181 #[ptr (s.wb n)] .normal) (Z::U)) w:=by
 refine cJ func181 a 5 λa a a a a d b j g=>aq F e a b j 7 [] [] [] [(3,ptr (s.wb n))] (λM=>M) 0 7 1 [] λb b g b j j j=>bu F a b g 4 182 #[ptr (s.wb n),i6 2] λb b=>Rp F e c l g.sat o k Q p (by omega) m f ⟨λh j k g=>b _ _ _ k λt v m c f=>?_,λo k i p q s r j n l j u g=>b _ _ _ l λt v m c f=>?_⟩
 .refine bB F e a d c m 2 [] [] [] 2 (.bool false) (λM=>M) 0 10 1 [] λb l f g=>K.1 h b l.sat (by omega)
 .refine bB F e a d c m 2 [] [] [] 2 (.bool true) (λM=>M) 0 10 1 [] λb l f g=>K.2 o k i p q s r b n l.sat j u (by omega)
theorem YJ:∀{n:Nat}{q:aN},yV q n wt k->tJ wt k n=q.find? λw=>!(wt w).x&&!(wt w).e:=by
 intro n q h;have key:∀m,m<=n->(tJ wt k m=none/\∀w,w<m->¬((wt w).l=k/\(wt w).x=false/\(wt w).e=false))\/∃w,tJ wt k m=some w/\w<m/\((wt w).l=k/\(wt w).x=false/\(wt w).e=false)/\∀v,v<w->¬((wt v).l=k/\(wt v).x=false/\(wt v).e=false):=by
  intro m;induction m with
  |zero=>intro _;exact .inl ⟨rfl,λw f=>by omega⟩
  |succ m b=>
   intro j;rcases b (by omega)with ⟨c,d⟩|⟨w,c,d,b,i⟩
   .unfold tJ;grind
   .exact .inr ⟨w,by unfold tJ;rw[c],by omega,b,i⟩
 rcases key n (az _)with ⟨c,d⟩|⟨w,c,d,b,i⟩
 .rw[c];symm;rw[List.find?_eq_none];intro w f;have:=h.mem w f;simp_all
 .rw[c];symm;rw[List.find?_eq_some_iff_append];refine⟨by simp[b],?_⟩;obtain⟨f,c,e⟩:=List.append_of_mem (h.all w d b.1 b.2.1 b.2.2);refine⟨f,c,e,λa c=>?_⟩;have g:=h.pN;rw[e,YS]at g;have b:=g.2.2 a c w (bI ..);have j:=(h.mem a (by simp_all)).2;grind
theorem yV.tail(h:yV (m::q) n wt k)(a:¬((wt m).x=false/\(wt m).e=false)):yV q n wt k:=
 ⟨(dr.1 h.pN).2,λw a=>h.mem w (aP _ a),λw d c b a=>by
   rcases ak.1 (h.all w d c b a)with rfl|z
   .simp_all
   .exact z⟩
theorem yV.uQ{L:LS}(h:yV q L.wl L.wt k)(n:Nat):yV q L.wl (L.dg n).wt k:=by
 have e:∀w,((L.dg n).wt w).l=(L.wt w).l/\(((L.dg n).wt w).x=false->(L.wt w).x=false)/\((L.dg n).wt w).e=(L.wt w).e:=λw=>by
  simp only[LS.dg,LS.put,upd];grind
 exact⟨h.pN,λw a=>⟨(h.mem w a).1,by rw[(e w).1];exact(h.mem w a).2⟩,λw b a a c=>h.all w b (by simp_all) ((e w).2.1 a) (by simp_all)⟩
theorem Sat.shift{v:eX}(h:Sat I w (fR ⟨g,o,none⟩ 1 v (n+1) true::M)):Sat I w (fR ⟨g,o+1,none⟩ 1 (λj=>v (j+1)) n true::M):=by
 have i:∀j:Ix,(fR ⟨g,o+1,none⟩ 1 (λj=>v (j+1)) n true).ad j=(fR ⟨g,o,none⟩ 1 v (n+1) true).ad (j.1+1,j.2):=λj=>by
  show((⟨g,o+1,none⟩:Addr).add (j.1*1)).add j.2=((⟨g,o,none⟩:Addr).add ((j.1+1)*1)).add j.2;simp only[ey,lm];simp
 have c:∀j:Ix,(fR ⟨g,o+1,none⟩ 1 (λj=>v (j+1)) n true).has j->(fR ⟨g,o,none⟩ 1 v (n+1) true).has (j.1+1,j.2):=λj a=>⟨YW a.1,a.2⟩
 have d:=sat_iff.1 h;have H:=d.1 _ (bI ..);obtain⟨h,g⟩:=dr.1 d.2;refine sat_iff.2 ⟨λr d=>?_,dr.2 ⟨λr d k j f a b e=>h r d (.inl rfl) _ f (c j a) b (by simp_all),g⟩⟩;rcases ak.1 d with rfl|d
 .refine⟨λj a=>by rw[i];exact H.val _ (c j a),λj a=>by rw[i];exact H.ok _ (c j a),λ_ j f a b e=>?_,λ_ _ _ z=>by cases z⟩;have:=H.inj rfl _ _ (c j a) (c f b) (by simp_all);grind
 simp_all
theorem Sat.Md{v:eX}(A:aW)(h:Sat I w (A++(fR ⟨g,o,none⟩ 1 v (n+1) true::M))):Sat I w (A++(fR ⟨g,o+1,none⟩ 1 (λj=>v (j+1)) n true::M)):=
 (h.perm eY).shift.perm eY.symm
theorem LW{i:Nat}{c:ay}{d:mW}{b a:Nat}:(wX (s.uQ n i c d b a) n).Perm (oR b 0 [ptr s.k.A] false::oR a 0 [ptr (s.wb n)] false::wX s n):=by
 have e:((List.range s.l.wl).flatMap λj=>if j=n then[]else wR (s.uQ n i c d b a) j)=(List.range s.l.wl).flatMap λj=>if j=n then[]else wR s j:=by
  congr 1;funext j;by_cases e:j=n
  .simp_all
  .rw[af e,af e];unfold wR;simp[LS.dg,LS.put,upd,e]
 unfold wX;show(gA s++(((List.range s.l.wl).flatMap λj=>if j=n then[]else wR (s.uQ n i c d b a) j)++(oR b 0 [ptr s.k.A] false::oR a 0 [ptr (s.wb n)] false::s.cx))).Perm _;rw[e];have h:=fA (gA s++(List.range s.l.wl).flatMap λj=>if j=n then[]else wR s j) [oR b 0 [ptr s.k.A] false,oR a 0 [ptr (s.wb n)] false] s.cx;simp_all
section
variable{J:LS}
theorem II(W:jF E D J t)(V:j<D.V.nl)(T:(D.V.ly j).k=5){p:γ}{L0:LS}{w0:aj}(rZ:L0.al<1000000)(U5:0<=L0.now/\L0.now<1000000000000)(htn:-1000000<(L0.gt j).tn/\(L0.gt j).tn<1000000)(K:∀s' a' w' n bs qs,iE (pc prog 179 n bs qs)=true->a'.defers=[]->Cn E D t p s' w' v R->s'.l=(match tJ L0.wt j L0.wl with
 |some w=>L0.dg w
 |none=>L0.aO j {L0.gt j with tn:=(L0.gt j).tn-1})->w0.heap.size<=w'.heap.size->E.Ψ p (G ((baseD 179).at a' (pc prog 179 n bs qs)) (Z::U)) w'):∀(q:aN)(s:PS)(w:aj)(a0:Act)(B0:Nat),s.lq j=q->s.l=L0->Cn E D t p s w v R->w0.heap.size<=w.heap.size->a0.defers=[]->w.heap.size=B0->aR [(0,ptr (D.lb j))] 39 a0->E.Ψ p (G ((baseD 179).at a0 (pc prog 179 11 [] [])) (Z::U)) w:=by
 have F:=W.f p;have hB:=W.hB p;intro q;induction q with
 |nil=>
  intro s w a0 B0 hq hl C Zn tN Q VV;have QZ:=C.bd;obtain⟨base,c,G⟩:∃base c,su (s.f j) 0=.slice base 0 c:=by unfold su;split<;>exact⟨_,_,rfl⟩
  have hO:=C.open V;have H:∀g,gR (D.V.ly j) (D.lb j) g (s.f j) (s.lq j)=[oR (D.lb j) 5 [i6 g.tn,.slice base 0 c] true,fR ⟨(s.f j).g,(s.f j).o,none⟩ 1 (s.f j).v (rK (s.f j)) true]:=λg=>by unfold gR;simp_all
  rw[H]at hO;have S0:St (E.Ok p) B0 39 _ _ 0 a0 w:=⟨VV,hO,Q⟩;refine qk F hB tN S0 22 [7,0,1,1,7,0,0,1,7,0,0,1] [1] [] [] (λM=>bh 7 (0,0) (i6 (IntKind.wrap .i64 ((s.l.gt j).tn-1))) (M)) 0 33 2 [] [] [] [] λa1 w1 S1 Nt zS Dx o9=>?_;have G:IntKind.wrap .i64 ((s.l.gt j).tn-1)=(s.l.gt j).tn-1:=aA (by grind) (by grind);rw[G]at S1;have h1:Sat (E.Ok p) w1 (pM s++([oR (D.lb j) 5 [i6 ((s.l.gt j).tn-1),.slice base 0 c] true,fR ⟨(s.f j).g,(s.f j).o,none⟩ 1 (s.f j).v (rK (s.f j)) true]++(dO (D.T t) v false::(R++(gX s j++E.O p))))):=S1.sat.cast (by kernel_rfl);have C1:=C.shut (ea:=s.ea) (ec:=s.ec) (vv:=s.vv) (f':=s.f j) (L':=s.l.aO j {s.l.gt j with tn:=(s.l.gt j).tn-1}) V (LG.aO _) (w':=w1) (by rw[r7,H];exact h1) C.pv.jr (λz=>by omega) (λ_=>rfl) (by omega);have m:=YJ (C.ln j V T);rw[hq,hl]at m;rw[m]at K;exact K _ a1 w1 33 [false] [] (by kernel_rfl) Nt C1 (by simp_all) (by omega)
 |cons n q ih=>
  intro s w a0 B0 hq hl C Zn tN Q VV;have QZ:=C.bd;have Nh:=C.hk;have d:=C.pv.rm j (by simp_all) (by simp_all);rw[hq]at d;have I:(s.f j).s=true:=by
   cases h:(s.f j).s with
   |true=>rfl
   |false=>have:=(d.nil h).1;cases this
  have hc:=d.len I;have c:=d.val 0 (by simp);have c:rK (s.f j)=(s.f j).c:=by unfold rK;grind
  have G:1<=(s.f j).c:=by grind
  have hO:=C.open V;have H:∀g,gR (D.V.ly j) (D.lb j) g (s.f j) (s.lq j)=[oR (D.lb j) 5 [i6 g.tn,.slice (some ⟨(s.f j).g,(s.f j).o,none⟩) (q.length+1) (s.f j).c] true,fR ⟨(s.f j).g,(s.f j).o,none⟩ 1 (s.f j).v (s.f j).c true]:=λg=>by unfold gR;rw[af (by omega),af (by omega),ah T,hq,c];simp only[gB,su,I,if_true]
  rw[H]at hO;replace hO:=hO.re 8 rfl rfl (λi=>match i with|0=>[ptr (s.wb n)]|i+1=>(s.f j).v (i+1)) (λi hi f c=>by
   grind)
  have S0:St (E.Ok p) B0 39 _ _ 0 a0 w:=⟨VV,hO,Q⟩;have c:decide (((q.length+1:Nat):Int)>0)=true:=by simp
  refine qk F hB tN S0 30 [7,0,1,1,7,0,1,1,8,0,0,101,7,0,1,1] [2,2] [] [(26,.slice (some (Addr.mk (s.f j).g (s.f j).o none)) (List.length q+1) (s.f j).c),(22,ptr (D.lb j)),(4,ptr (s.wb n)),(0,ptr (D.lb j))] id 0 41 3 [] [(decide ((↑(List.length q+1):Int)>0),true)] [(0,List.length q+1)] [(1,(0,(s.f j).c))] λa1 w1 S1 Nt zS Dx o9=>Ub t156 F (by decide) 26 27 (by kernel_rfl) (by kernel_rfl) (by decide) rfl hc S1 λa2 OR DF=>?_;rw[show jB (pc prog 179 41 (Bo 3) [])=pc prog 179 42 [true] [] by kernel_rfl];obtain⟨ad,NC⟩:∃ad,ad=(if(s.f j).c=1 then(⟨(s.f j).g,(s.f j).o,none⟩:Addr)else(⟨(s.f j).g,(s.f j).o,none⟩:Addr).add 1):=⟨_,rfl⟩;rw[<-NC]at OR;have S2:St (E.Ok p) B0 39 _ _ 0 a2 w1:=⟨OR,S1.sat,S1.sz⟩;replace S2:=S2.dB [(27,.slice (some ad) q.length ((s.f j).c-1)),(22,ptr (D.lb j)),(4,ptr (s.wb n)),(0,ptr (D.lb j))] rfl;replace DF:=DF.trans Nt;have c:w1.heap.size=B0:=by omega
  refine qk F hB DF S2 7 [7,0,1,1] [] [] [(30,ptr (s.wb n)),(0,ptr (D.lb j))] (λM=>bh 7 (0,1) (.slice (some ad) (List.length q) ((s.f j).c-1)) (M)) 0 49 3 [] [] [] [] λc w3 S3 CJ c c c=>?_;have XB:∀(g:Gt)(x:Fb),gR (D.V.ly j) (D.lb j) g x q=[oR (D.lb j) 5 [i6 g.tn,su x q.length] true,fR ⟨x.g,x.o,none⟩ 1 x.v (rK x) true]:=λg x=>by unfold gR;simp_all
  have P:Sat (E.Ok p) w3 (pM s++([oR (D.lb j) 5 [i6 (s.l.gt j).tn,.slice (some ad) q.length ((s.f j).c-1)] true,fR ⟨(s.f j).g,(s.f j).o,none⟩ 1 (λi=>match i with|0=>[ptr (s.wb n)]|i+1=>(s.f j).v (i+1)) (s.f j).c true]++(dO (D.T t) v false::(R++(gX s j++E.O p))))):=S3.sat.cast (by kernel_rfl);obtain⟨x,YR,Nk⟩:∃x:Fb,G3 (E.Ok p) s.wb q x/\Sat (E.Ok p) w3 (pM s++(gR (D.V.ly j) (D.lb j) (s.l.gt j) x q++(dO (D.T t) v false::(R++(gX s j++E.O p))))):=by
   by_cases ON:(s.f j).c=1
   .have M9:q=[]:=by simp_all
    subst M9;refine⟨⟨true,(s.f j).g,(s.f j).o,0,λi=>match i with|0=>[ptr (s.wb n)]|i+1=>(s.f j).v (i+1)⟩,⟨(λz=>by cases z),λ_=>az _,λ_=>d.ok I,(λi hi=>by cases hi)⟩,?_⟩;rw[XB];rw[NC,ah ON,ON]at P;exact P
   .refine⟨⟨true,(s.f j).g,(s.f j).o+1,(s.f j).c-1,λi=>(s.f j).v (i+1)⟩,⟨(λz=>by cases z),λ_=>by grind,λ_=>d.ok I,λi hi=>by have:=d.val (i+1) (by simp_all);simp_all⟩,?_⟩;rw[XB];rw[NC,af ON]at P;obtain⟨c,f⟩:∃c,(s.f j).c=c+1:=⟨(s.f j).c-1,by omega⟩;have g:rK ⟨true,(s.f j).g,(s.f j).o+1,(s.f j).c-1,λi=>(s.f j).v (i+1)⟩=c:=by unfold rK;simp only[if_true];omega
    rw[g];simp only[su,if_true];rw[f]at P ⊢;rw[eM]at P ⊢;have O:=Sat.Md (pM s++[oR (D.lb j) 5 [i6 (s.l.gt j).tn,.slice (some ((⟨(s.f j).g,(s.f j).o,none⟩:Addr).add 1)) q.length c] true]) (by rw[dU];exact P);rw[dU]at O;exact O
  obtain⟨a,b⟩:∃a:PS,a={s with f:=upd s.f j x,lq:=upd s.lq j q}:=⟨_,rfl⟩
  have hO1:Sat (E.Ok p) w3 (pM a++(dO (D.T t) v false::(R++(gS a++E.O p)))):=by
   have h1:=Yo a (k:=j) (by simp_all);have c:gX a j=gX s j:=K3 (by rw[b]) (λi _=>by rw[b]) (λi hi=>by rw[b];simp[upd,hi]) (by rw[b];exact⟨rfl,λ_ _=>rfl⟩) (by rw[b]);rw[show a.k=D by simp_all,show a.f j=x by rw[b];simp[upd],show a.lq j=q by rw[b];simp[upd],show a.l=s.l by rw[b],c]at h1;have h2:=(Nk.perm (pQ ..).symm);rw[show pM a=pM s by rw[b];rfl];refine h2.perm (eN _ (List.Perm.cons _ (eN _ ?_)));rw[<-dU];exact(h1.append_right _).symm
  have L:PV (E.Ok p) a (bA a):=by
   have c:bA a=bA s:=by rw[b];rfl
   rw[c,b];refine⟨C.pv.jr,C.pv.en,C.pv.eo,λk o f=>?_,λk o B=>?_,C.pv.cx⟩
   .have c:k≠j:=λz=>by simp_all
    simp only[upd,af c];exact C.pv.fb k o f
   .by_cases e:k=j
    .subst e;simp only[upd,if_true];exact YR
    .simp only[upd,af e];exact C.pv.rm k o B
  have f:QI a:=by rw[b];exact⟨C.qi.lt,C.qi.all,C.qi.pN,C.qi.ws,C.qi.cv,C.qi.wt⟩
  have hL:=C.ln j V T;rw[hq]at hL;obtain⟨c,g⟩:=hL.mem n (bI ..);obtain⟨u,Xl,g⟩:=C.qi.wt n c;rw[Nh]at Xl;have A:a.l=s.l:=by rw[b]
  have o:a.k=D:=by simp_all
  have N:∀k,k≠j->a.lq k=s.lq k:=λk T=>by rw[b];simp[upd,T]
  have c:Flat (R++(gS a++E.O p)):=C.fl.left.app (Flat.app (bO.2 (r9 a λr w=>(L.cx r w).2)) C.fl.right);have x:=og a (i:=n) (by simp_all);have G:(pM a++(dO (D.T t) v false::(R++(gS a++E.O p)))).Perm (pM a++(wR a n++(dO (D.T t) v false::(R++(wX a n++E.O p))))):=by
   refine List.Perm.trans (eN _ (List.Perm.cons _ (eN _ ?_))) (pQ ..);rw[<-dU];exact x.append_right _
  have g:a.wb=s.wb:=by rw[b]
  refine RM F CJ 31 181 #[ptr (s.wb n)] (by kernel_rfl) (by kernel_rfl) (by decide) S3 λc c=>?_;rw[<-g];refine N6 F hB (s:=a) (n:=n) (u:=u) (aS:=D.aS u) (C:=dO (D.T t) v false::(R++(wX a n++E.O p))) (by simp_all) (by simp_all) (hO1.perm G) (by rw[o];exact((C.eH.nH u Xl).pre _).cons) L f ?_ (by omega) (by have g:=f.len;grind) (by simp_all) ⟨λh u O s=>c _ _ _ O λH B4 S4 Y g=>?_,λhx he i en eb ba bw u hi O u u s=>c _ _ _ O λH B4 S4 Y g=>?_⟩
  .have h5:∀r∈wX a n,r.row=none:=λr w=>r9 a (λr w=>(L.cx r w).2) r (x.mem_iff.2 (gF _ w));exact Flat.cons (C.fl.left.app (Flat.app (bO.2 h5) C.fl.right)) rfl
  .refine qk F hB Y S4 5 [] [1] [] [(0,ptr (D.lb j))] id 0 55 5 [] [] [] [] λa5 w5 S5 X Y5 Dw qO=>?_;rw[A]at h;have C1:Cn E D t p a w5 v R:=⟨S5.sat.perm G.symm,L,f,C.fl,C.eH,by omega,C.gu.trans (by rw[b];exact⟨rfl,rfl,rfl,rfl,rfl,rfl,rfl,rfl,rfl,λ_ _=>rfl,λ_ _=>rfl,λ_ _=>⟨rfl,rfl⟩⟩),o,λk S B=>by
    rw[A];by_cases e:k=j
    .subst e;rw[show a.lq k=q by rw[b];simp[upd]];exact hL.tail h
    .rw[N k e];exact C.ln k S B⟩
   have m:=YJ (C.ln j V T);rw[show pc prog 179 55 (Bo 5) []=pc prog 179 11 [] [] by kernel_rfl];exact ih a w5 a5 B4 (by rw[b];simp[upd]) (A.trans hl) C1 (by omega) X (by omega) S5.env
  .refine qk F hB Y S4 2 [] [3] [] [] id 0 52 7 [] [] [] [] λa5 w5 S5 X Y5 Dw qO=>?_;rw[A]at hx he;have m:=YJ (C.ln j V T);rw[hq,List.find?_cons_of_pos (by grind),hl]at m;rw[m]at K;obtain⟨l,y⟩:∃l:PS,l=a.uQ n i en eb ba bw:=⟨_,rfl⟩;have f:l.l=L0.dg n:=by grind
   have c:Sat (E.Ok p) w5 (pM l++(dO (D.T t) v false::(R++(gS l++E.O p)))):=by
    have h1:=og l (i:=n) (by rw[y];show n<a.l.wl;grind);have h2:(wX l n).Perm (oR ba 0 [ptr a.k.A] false::oR bw 0 [ptr (a.wb n)] false::wX a n):=by rw[y];exact LW
    have P:Sat (E.Ok p) w5 (pM l++(wR l n++(oR ba 0 [ptr a.k.A] false::oR bw 0 [ptr (a.wb n)] false::(dO (D.T t) v false::(R++(wX a n++E.O p)))))):=by rw[y];exact S5.sat
    refine P.perm (eN _ ?_);have O:(gS l).Perm (wR l n++(oR ba 0 [ptr a.k.A] false::oR bw 0 [ptr (a.wb n)] false::wX a n)):=h1.trans (h2.append_left _);refine List.Perm.trans ?_ (List.Perm.cons _ (eN _ (O.append_right _))).symm;have h5:=fA (dO (D.T t) v false::R) (wR l n++[oR ba 0 [ptr a.k.A] false,oR bw 0 [ptr (a.wb n)] false]) (wX a n++E.O p);simpa using h5.symm
   refine K l a5 w5 52 [true,true] [] (by kernel_rfl) X ⟨c,by grind,by grind,C.fl,C.eH,by omega,(C.gu.trans (s2:=a) (by rw[b];exact⟨rfl,rfl,rfl,rfl,rfl,rfl,rfl,rfl,rfl,λ_ _=>rfl,λ_ _=>rfl,λ_ _=>⟨rfl,rfl⟩⟩)).uQ (w:=n) (i:=i) (by rw[y];exact⟨rfl,rfl,rfl,rfl,rfl,by grind,by grind,by grind,j,by grind,by grind,by grind⟩),by grind,λk S B=>?_⟩ f (by omega)
   .rw[y];show yV (a.lq k) a.l.wl (a.l.dg n).wt k;rw[A];by_cases e:k=j
    .subst e;rw[show a.lq k=q by rw[b];simp[upd]];exact(hL.uQ n).tail λz=>by have:=z.1;simp[LS.dg,LS.put,upd]at this
    .rw[N k e];exact(C.ln k S B).uQ n
theorem Be(W:jF E D J t)(h:j<D.V.nl)(q:(D.V.ly j).k=5){p:γ}(C:Cn E D t p s w v R)(a:qm D.V t s.l){i:Act}{c:Nat}(k:St (E.Ok p) c 39 [(0,ptr (D.lb j)),(1,ptr (D.T t))] (pM s++(dO (D.T t) v false::(R++E.P p s))) 0 i w)(b:i.defers=[])(d:w.heap.size=c)(K:∀c g w' n f d,iE (pc prog 179 n f d)=true->g.defers=[]->Cn E D t p c w' v R->c.l=s.l.fC t j->w.heap.size<=w'.heap.size->E.Ψ p (G ((baseD 179).at g (pc prog 179 n f d)) (Z::U)) w'):E.Ψ p (G ((baseD 179).at i (pc prog 179 0 [] [])) (Z::U)) w:=by
 have F:=W.f p;have o:=W.hB p;have e:=C.bd;refine qk F o b k 6 [] [] [] [(8,ptr (D.T t)),(7,ptr (D.lb j)),(0,ptr (D.lb j))] id 0 6 1 [] [] [] [] λb b e b k k k=>RM F b 9 149 #[ptr (D.lb j),ptr (D.T t),i6 14,i6 0] (by kernel_rfl) (by kernel_rfl) (by decide) e λb b=>iU W {C with sat:=e.sat,bd:=by omega} a.el a.tc (C.eH.lay j h) λl e k e m=>b _ _ _ k.sat λb u p b m=>?_;have m:=k.bd;refine qk F o b p 4 [] [] [] [(0,ptr (D.lb j))] id 0 11 1 [] [] [] [] λt o m b p p p=>?_;have r:=a.gt j h (by omega);have p:=r.tn;refine II W h q (L0:=l.l) (w0:=w) (by rw[e];exact a.al) (by rw[e];exact a.now) (by rw[e];show -1000000<(s.l.gt j).tn/\(s.l.gt j).tn<1000000;omega) (λc g w' n f d q p j h a=>K c g w' n f d q p j (by rw[h,e];rfl) a) _ l o t u rfl rfl {k with sat:=m.sat,bd:=by omega} (by omega) b (by omega) m.env
end
theorem Gj{J:LS}{L:LS}(a:j<V.nl)(b:(V.ly j).k=5)(h:Fin V J m (some (t,j,none)) L):∃a,m=a+1/\qm V t L/\
 ((L.gt j).tn<(V.ly j).a->Fin V J a (some (t,j+1,none)) ((L.aO j {L.gt j with tn:=(L.gt j).tn+1}).say t j 13 0))/\
 (¬(L.gt j).tn<(V.ly j).a->(V.ly j).b=0->Fin V J a (some (t,j,some (c9 3 j 0))) (L.say t j 7 0))/\
 (¬(L.gt j).tn<(V.ly j).a->¬(V.ly j).b=0->Fin V J a none ((L.say t j 12 0).wait t j (V.ly j).b)):=by
 cases m with
 |zero=>exact h.elim
 |succ m=>
  obtain⟨a,a,a,c⟩:=h;have e:(j=V.nl)=False:=by simp;omega
  simp only[LS.step,e,if_false,b,af (show¬(5:Int)=1 by decide),af (show¬(5:Int)=3 by decide),af (show¬(5:Int)=4 by decide),if_true,LS.take,LS.nV]at c;grind
theorem CS{J:LS}{L:LS}(c:(V.ly j).k=5)(h:Fin V J m (some (t,j+1,some b)) L):∃a,m=a+1/\qm V t L/\G5 b/\Fin V J a (some (t,j,some b)) (L.fC t j):=by
 cases m with
 |zero=>exact h.elim
 |succ m=>
  obtain⟨a,a,a,d⟩:=h;have e:(j+1=0)=False:=by simp
  simp only[LS.step,e,if_false,eM,c,af (show¬(5:Int)=1 by decide),af (show¬(5:Int)=4 by decide),if_true]at d;simp_all
section
variable{J:LS}
theorem Im(W:jF E D J t)(Q:j<D.V.nl)(hk:(D.V.ly j).k=5){p:γ}{c:aC}(C:Cn E D t p s w v R)(hf:Fin D.V J m (some (t,j,none)) s.l)(Ts:m<=E.pS p)(K:∀m' p' N w' v' z,m'<m->m'<=E.pS p'->Cn E D t p' N w' v' R->N.l.el<1000000->(N.l.tk t).c=t->((z=2/\Fin D.V J m' (some (t,j+1,none)) (N.l.say t j 13 0))\/(z=1/\qm D.V t N.l/\Fin D.V J m' (some (t,j,some (c9 3 j 0))) (N.l.say t j 7 0)))->(N.l.tk t).a=(s.l.tk t).a->(N.l.tk t).q=(s.l.tk t).q->E.Ψ p' (G (c.finish (i6 z)) U) w'):
 E.Ψ p (G (Frame.enter prog 180 #[ptr (D.lb j),ptr (D.T t)] .normal) (c::U)) w:=by
 have F:=W.f p;have Y:=W.hB p;have c:=C.bd;obtain⟨m0,rfl,S,I5,YR,Nk⟩:=Gj Q hk hf;have m:=S.gt j Q (by omega);have c:=W.V.ro j Q hk;have c:=m.tn;have FT:=C.eH.lay j Q;have O:∀g f q,gR (D.V.ly j) (D.lb j) g f q=[oR (D.lb j) 5 [i6 g.tn,su f q.length] true,fR ⟨f.g,f.o,none⟩ 1 f.v (rK f) true]:=λg f q=>by unfold gR;simp_all
 have hO:=C.open Q;rw[O]at hO;obtain⟨fv,FV⟩:∃fv,fv=su (s.f j) (s.lq j).length:=⟨_,rfl⟩;rw[<-FV]at hO;have c:=hO.get (r:=oR (D.lb j) 3 [i6 (D.V.ly j).a,i6 (D.V.ly j).b] false) (((C.eH.Kj j Q hk).pre _).cons.cons.cons.app (pM s));refine cJ func180 c 52 λc c c c o qh f S0 c=>?_;by_cases G:(s.l.gt j).tn<(D.V.ly j).a
 .refine oH F Y o qh f S0 25 [8,0,0,1,0,0,0,1,8,0,0,1,8,0,0,1] [2] [8] 4 (i6 2) (λM=>bh 8 (0,0) (i6 (IntKind.wrap .i64 ((s.l.gt j).tn+1))) (M)) 0 25 3 [8] [(decide ((s.l.gt j).tn<(D.V.ly j).a),true)] [] [] λc S1 g m=>?_;have q:IntKind.wrap .i64 ((s.l.gt j).tn+1)=(s.l.gt j).tn+1:=aA (by omega) (by omega);rw[q]at S1;have H:Sat (E.Ok p) c (oR (D.lb j) 3 [i6 (D.V.ly j).a,i6 (D.V.ly j).b] false::(pM s++([oR (D.lb j) 5 [i6 ((s.l.gt j).tn+1),fv] true,fR ⟨(s.f j).g,(s.f j).o,none⟩ 1 (s.f j).v (rK (s.f j)) true]++(dO (D.T t) v false::(R++(gX s j++E.O p)))))):=S1.sat.cast (by kernel_rfl);have C1:=C.shut (ea:=s.ea) (ec:=s.ec) (vv:=s.vv) (f':=s.f j) (L':=s.l.aO j {s.l.gt j with tn:=(s.l.gt j).tn+1}) Q (LG.aO _) (w':=c) (by rw[r7,O,<-FV];exact H.tail) C.pv.jr (λz=>by omega) (λ_=>rfl) (by omega);exact K m0 p _ c v 2 (by omega) (by omega) C1 S.el S.tc (.inl ⟨rfl,I5 G⟩) rfl rfl
 .by_cases q:(D.V.ly j).b=0
  .rw[q]at S0;refine oH F Y o qh f S0 25 [8,0,0,1,0,0,0,2] [0,3] [8] 4 (i6 1) (λM=>M) 0 25 6 [8] [(decide ((s.l.gt j).tn<(D.V.ly j).a),false)] [] [] λc S1 g m=>?_;have C1:=C.shut (ea:=s.ea) (ec:=s.ec) (vv:=s.vv) (f':=s.f j) (L':=s.l) Q LG.bY (w':=c) (by rw[O,<-FV,fU];exact S1.sat.tail) C.pv.jr (λz=>by omega) (λ_=>rfl) (by omega);exact K m0 p _ c v 1 (by omega) (by omega) C1 S.el S.tc (.inr ⟨rfl,S,YR G q⟩) rfl rfl
  .refine aX F Y o f S0 28 [8,0,0,1,0,0,0,2] [0,0] [8] [(30,ptr (D.T t)),(29,ptr (D.lb j)),(0,ptr (D.lb j)),(1,ptr (D.T t))] (λM=>M) 0 28 4 [8] [((D.V.ly j).b==0,false),(decide ((s.l.gt j).tn<(D.V.ly j).a),false)] [] [] λf c S1 f g m g=>?_;have C1:=C.shut (ea:=s.ea) (ec:=s.ec) (vv:=s.vv) (f':=s.f j) (L':=s.l) Q LG.bY (w':=c) (by rw[O,<-FV,fU];exact S1.sat.tail) C.pv.jr (λz=>by omega) (λ_=>rfl) (by omega);rw[fU]at C1;refine bu F o f S1 31 149 #[ptr (D.lb j),ptr (D.T t),i6 12,i6 0] λc c=>iU W C1 S.el S.tc FT λd f r e2 f=>c _ _ _ (r.sat.get (((r.eH.Kj j Q hk).pre _).cons.app (pM d))) λc c g c f=>?_;have f:=r.bd;replace e2:d.l=s.l.say t j 12 0:=e2;have QO:=Nk G q;rw[<-e2]at QO;have QJ:=r.hk;have f:0<=d.l.now/\d.l.now<1000000000000:=by rw[e2];exact S.now
   have f:d.l.al<1000000:=by rw[e2];exact S.al
   refine aq F Y o c g 29 [8,0,2,1,0,0,1,1] [1] [] [(38,i6 (D.V.ly j).b),(34,ptr (D.T t)),(0,ptr (D.lb j))] (λM=>M) 0 45 8 [8] λc m g c q q q=>bu F o c g 39 162 #[ptr (D.T t),i6 (D.V.ly j).b] λc Nv=>pL (s:=d) (t:=t) (aS:=D.aS t) (ly:=j) F Y (w:=m) g.sat.tail (by rw[QJ];exact(r.eH.nH t W.tn).pre _) (by rw[QJ];exact W.tn) r.pv r.qi r.TJ (λk Zk h5 w X=>((r.ln k (by simp_all) (by simp_all)).mem w X).1) (by omega) (Nat.lt_of_le_of_lt r.qi.len f) (by omega) (by omega) λi x en eb w4 h4 OE Q4 hi c c=>?_;have T:=r.pv.rm j (by simp_all) (by simp_all);obtain⟨base,Bl,P⟩:∃base,su (d.f j) (d.lq j).length=.slice base (d.lq j).length (d.f j).c/\((base=some ⟨(d.f j).g,(d.f j).o+0,none⟩/\(d.f j).s=true)\/(base=none/\(d.f j).s=false/\d.lq j=[]/\(d.f j).c=0)):=by
    cases hfs:(d.f j).s with
    |true=>exact⟨_,by unfold su;simp_all,.inl ⟨rfl,rfl⟩⟩
    |false=>
     obtain⟨z1,z2,z3⟩:=T.nil hfs;exact⟨none,by unfold su;simp_all,.inr ⟨rfl,rfl,z1,z3⟩⟩
   have h5:Sat (E.Ok p) w4 (pM (d.cB t j (D.V.ly j).b i x en eb)++([oR (D.lb j) 5 [i6 (d.l.gt j).tn,.slice base (d.lq j).length (d.f j).c] true,fR ⟨(d.f j).g,(d.f j).o,none⟩ 1 (d.f j).v (rK (d.f j)) true]++(dO (D.T t) (ptr x) false::bR x [ptr (D.T t),i6 0]::(R++(gX d j++E.O p))))):=by
    have H:=Yo d (k:=j) (by simp_all);rw[QJ,O,Bl]at H;refine(h4.perm ?_).perm (pQ _ _ (bR x [ptr (D.T t),i6 0]::R) _ _);refine eN _ (List.Perm.cons _ (List.Perm.cons _ (eN _ ?_)));show(gS d++E.O p).Perm _;rw[<-dU];exact H.append_right _
   refine Nv _ _ _ h5 λc B4 g c f=>aq F Y o c g 11 [7,0,1,1] [] [] [(46,.slice (some ⟨B4,0,none⟩) 1 1),(44,.slice base (List.length (d.lq j)) (d.f j).c),(40,ptr (D.lb j)),(5,ptr x)] (λM=>bR (B4) [ptr x]::(M)) 1 57 8 [8] λc c m Yv c c c=>?_;have hL:=r.ln j Q hk;have c:(d.lq j).length<1000000:=by
    have h6:=oX (hL.pN.imp fun{a b} h=>iS h) λw X=>(hL.mem w X).1;have:d.l.wl<1000000:=by rw[e2];exact S.wl
    omega
   have g:(d.lq j).length<=(d.f j).c:=by
    rcases P with z|z
    .exact T.len z.2
    simp_all
   have f:0+(d.f j).c<=rK (d.f j)/\(0<(d.f j).c->rK (d.f j)=0+(d.f j).c):=by
    unfold rK;rcases P with z|z
    .rw[ah z.2];omega
    omega
   refine Wo t156 (by decide) F Y o 44 46 47 9 0 (g:=(d.f j).g) (o0:=(d.f j).o) (o:=0) (base:=base) (len:=(d.lq j).length) (cap:=(d.f j).c) (y:=ptr x) (v:=(d.f j).v) (n:=rK (d.f j)) (by kernel_rfl) (by kernel_rfl) (by decide) rfl rfl (P.imp (λz=>z.1) λz=>⟨z.1,rfl,z.2.2.2⟩) rfl f rfl rfl (λf z=>?_) g c (by omega) (by omega) m λB L c Z I a6 w6 f f h6 z1 z2 z3 f z5 TF DE=>?_
   .rcases P with y|y
    .refine⟨?_,T.ok y.2⟩;have h7:=m.sat.val 9 _ rfl (0,0) ⟨by show 0<rK (d.f j);unfold rK;grind,aD⟩;exact au h7
    simp_all
   obtain rfl:c=0:=by omega
   rw[show jB (pc prog 180 57 (Bo 8) [8])=pc prog 180 58 [false,false,false] [8] by kernel_rfl];have S6:St (E.Ok p) w6.heap.size 52 _ _ 0 a6 w6:=⟨TF,h6,rfl⟩;replace S6:=S6.dB [(47,.slice (some ⟨B,L,none⟩) ((d.lq j).length+1) I),(40,ptr (D.lb j)),(5,ptr x)] rfl;replace DE:=DE.trans Yv;generalize YG:w6.heap.size=c at S6;refine aq F Y o DE S6 7 [8,0,1,1] [] [] [(50,ptr x)] (λM=>bh 8 (0,1) (.slice (some (Addr.mk B L none)) (List.length (d.lq j)+1) I) (M)) 0 65 8 [8] λc w7 S7 c f f f=>GM F o c 51 153 #[ptr x] (by kernel_rfl) (by kernel_rfl) (by decide) S7 λRU VA=>?_;obtain⟨n,l⟩:∃n:PS,n={d.cB t j (D.V.ly j).b i x en eb with f:=upd d.f j ⟨true,B,L,I,Z⟩,lq:=upd d.lq j (d.lq j++[d.l.wl]),l:=(d.l.wait t j (D.V.ly j).b).tH d.l.wl ⟨0,0,[]⟩}:=⟨_,rfl⟩;have f:JV t d n j (D.V.ly j).b i x ⟨0,0,[]⟩:=by rw[l];exact⟨rfl,rfl,rfl,rfl,rfl⟩
   have Vu:n.f j=⟨true,B,L,I,Z⟩:=by rw[l];simp[upd]
   have Qq:n.lq j=d.lq j++[d.l.wl]:=by rw[l];simp[upd]
   have V:∀k,k≠j->n.f k=d.f k/\n.lq k=d.lq k:=λk h=>by rw[l];simp[upd,h]
   have Qd:n.l.wt=upd d.l.wt d.l.wl ⟨t,j,false,false,⟨0,0,[]⟩⟩:=by rw[l];funext j;simp only[LS.tH,LS.wait,LS.cB,LS.put,upd];simp_all
   have Dy:n.l.wl=d.l.wl+1:=by rw[l];rfl
   have Zk:n.k=D:=by simp_all
   have h7:Sat (E.Ok p) w7 (bR B4 [ptr x]::(pM (d.cB t j (D.V.ly j).b i x en eb)++([oR (D.lb j) 5 [i6 (d.l.gt j).tn,.slice (some ⟨B,L,none⟩) ((d.lq j).length+1) I] true,fR ⟨B,L,none⟩ 1 Z (0+I) true]++(dO (D.T t) (ptr x) false::bR x [ptr (D.T t),i6 0]::(R++(gX d j++E.O p)))))):=S7.sat.cast (by kernel_rfl);have c:Sat (E.Ok p) w7 (pM n++(dO (D.T t) (ptr x) false::(R++(gS n++E.O p)))):=by
    have H:=Yo n (k:=j) (by simp_all);rw[Zk,O,Vu,Qq,show n.l.gt j=d.l.gt j by rw[l];rfl]at H;have g:rK ⟨true,B,L,I,Z⟩=0+I:=by unfold rK;simp only[if_true];omega
    rw[g]at H;simp only[su,if_true,YA,List.length_singleton]at H;have m:(gX n j).Perm (oR x 1 [i6 0] true::oR x 0 [ptr (D.T t)] false::gX d j):=by
     unfold gX;rw[zk f,Zk,QJ,show n.cx=d.cx by rw[l],show n.l.gt=d.l.gt by rw[l];rfl];have g:((List.range D.V.nl).flatMap λi=>if i=j then[]else gR (D.V.ly i) (D.lb i) (d.l.gt i) (n.f i) (n.lq i))=(List.range D.V.nl).flatMap λi=>if i=j then[]else gR (D.V.ly i) (D.lb i) (d.l.gt i) (d.f i) (d.lq i):=by
      simp_all
     rw[g];have h:=fA (((List.range D.V.nl).flatMap λi=>if i=j then[]else gR (D.V.ly i) (D.lb i) (d.l.gt i) (d.f i) (d.lq i))++wS d) [oR x 1 [i6 0] true,oR x 0 [ptr (D.T t)] false] d.cx;simpa using h
    have g:=(h7.tail.perm (show List.Perm _ (bR x [ptr (D.T t),i6 0]::(pM (d.cB t j (D.V.ly j).b i x en eb)++([oR (D.lb j) 5 [i6 (d.l.gt j).tn,.slice (some ⟨B,L,none⟩) ((d.lq j).length+1) I] true,fR ⟨B,L,none⟩ 1 Z (0+I) true]++(dO (D.T t) (ptr x) false::(R++(gX d j++E.O p)))))) by
     have h:=fA (pM (d.cB t j (D.V.ly j).b i x en eb)++([oR (D.lb j) 5 [i6 (d.l.gt j).tn,.slice (some ⟨B,L,none⟩) ((d.lq j).length+1) I] true,fR ⟨B,L,none⟩ 1 Z (0+I) true]++[dO (D.T t) (ptr x) false])) [bR x [ptr (D.T t),i6 0]] (R++(gX d j++E.O p));simp_all)).Es
    rw[show pM n=pM (d.cB t j (D.V.ly j).b i x en eb) by rw[l];rfl];refine g.perm ?_;refine List.Perm.trans ?_ (eN _ (List.Perm.cons _ (eN _ ((H.trans (m.append_left _)).append_right _)))).symm;have h:=fA [oR x 1 [i6 0] true,oR x 0 [ptr (D.T t)] false] (pM (d.cB t j (D.V.ly j).b i x en eb)++([oR (D.lb j) 5 [i6 (d.l.gt j).tn,.slice (some ⟨B,L,none⟩) ((d.lq j).length+1) I] true,fR ⟨B,L,none⟩ 1 Z (0+I) true]++(dO (D.T t) (ptr x) false::R))) (gX d j++E.O p);have KW:=pQ (pM (d.cB t j (D.V.ly j).b i x en eb)) [oR (D.lb j) 5 [i6 (d.l.gt j).tn,.slice (some ⟨B,L,none⟩) ((d.lq j).length+1) I] true,fR ⟨B,L,none⟩ 1 Z (0+I) true] R (oR x 1 [i6 0] true::oR x 0 [ptr (D.T t)] false::(gX d j++E.O p)) (dO (D.T t) (ptr x) false);simp only[dU,um,List.nil_append]at h KW ⊢;exact h.trans KW.symm
   refine W.wait p d n w7 i x j (D.V.ly j).b ⟨0,0,[]⟩ RU _ R (ptr x) m0 r.gu r.hk (by omega) f c ?_ ?_ (λk A h5=>?_) (λk A Tt h6=>?_) r.fl r.eH (by omega) (by rw[f.l,E5];exact QO) (by omega) λp' N c m' z c Vh C' f1 f2 f3 f4 f5 f6=>VA.ret _ _ _ _ _ C'.sat λc c S8 Nn c=>?_
   .have c:bA n=bA (d.cB t j (D.V.ly j).b i x en eb):=by rw[l];rfl
    rw[c];refine⟨by rw[l];exact OE.jr,by rw[l];exact OE.en,by rw[l];exact OE.eo,λk A Ng=>?_,λk A Tu=>?_,by rw[l];exact OE.cx⟩
    .have c:k≠j:=λe=>by simp_all
     rw[(V k c).1,show n.l.gt=d.l.gt by rw[l];rfl];exact r.pv.fb k (by simp_all) (by simp_all)
    .have Xj:n.wb=upd d.wb d.l.wl x:=f.wb;have qN:∀k,k<D.V.nl->(D.V.ly k).k=5->∀w∈d.lq k,n.wb w=d.wb w:=λk H h2 w X=>by rw[Xj];exact af (iS ((r.ln k H h2).mem w X).1)
     rw[Zk]at A Tu;by_cases e:k=j
     .subst e;rw[Vu,Qq];refine⟨(λz=>by cases z),λ_=>by simpa using z5,λ_ ad wr hb=>?_,λi hi=>?_⟩
      .have LM:ad.block=B:=hb;rcases z3 with z|z
       .rcases P with y|y
        .rw[y.1]at z;cases z;exact T.ok y.2 ad wr LM
        simp_all
       grind
      .have c:i<(d.lq k).length+1:=by simpa using hi
       show(Z i).getD 0 undef=_;by_cases e:i=(d.lq k).length
       .subst e;have:=z2;rw[bK]at this;rw[this];simp[Xj,upd]
       .have c:i<(d.lq k).length:=by omega
        have:=z1 i c;rw[bK]at this;rw[this,T.val i c];have f:(d.lq k++[d.l.wl]).getD i 0=(d.lq k).getD i 0:=by grind
        rw[f,qN k A Tu _ (by rw[ni,mZ c];simp)]
     .rw[(V k e).1,(V k e).2];exact(r.pv.rm k (by grind) (by grind)).wb (qN k A Tu)
   .rw[l];exact⟨Q4.lt,Q4.all,Q4.pN,Q4.ws,Q4.cv,λw X=>by obtain⟨u,H,h2⟩:=Q4.wt w X;exact⟨u,H,(E4 ..).trans h2⟩⟩
   .rw[Dy,Qd];by_cases e:k=j
    .subst e;rw[Qq];refine⟨?_,λw X=>?_,λw X hl H h2=>?_⟩
     .rw[YS];exact⟨hL.pN,by simp,λa ha b hb=>by simp at hb;subst hb;exact(hL.mem a ha).1⟩
     .rcases dJ.1 X with z|z
      .have:=hL.mem w z;exact⟨by omega,by simp only[upd];rw[af (by omega)];exact this.2⟩
      .simp at z;subst z;exact⟨by omega,by simp[upd]⟩
     .by_cases e:w=d.l.wl
      .simp[e]
      .simp only[upd,af e]at hl H h2;exact gU _ (hL.all w (by omega) hl H h2)
    .rw[(V k e).2];exact(r.ln k A h5).cB (by grind)
   .by_cases e:k=j
    .subst e;rw[Vu];show B≠x;rcases z3 with z|z
     .rcases P with y|y
      .rw[y.1]at z;cases z;have:=r.row Q hk y.2;omega
      simp_all
     .omega
    .rw[(V k e).1]at h6 ⊢;have:=r.row A Tt h6;omega
   .have a:=C'.bd;replace F:=W.f p';replace Y:=W.hB p';have hfo:(z=2/\Fin D.V J m' (some (t,j+1,none)) (N.l.say t j 13 0))\/(z=1/\qm D.V t N.l/\Fin D.V J m' (some (t,j,some (c9 3 j 0))) (N.l.say t j 7 0)):=by
     rcases f1.2 with ⟨_,z,_⟩|⟨k,A,Ng,Nj⟩
     .omega
     .rw[f2]at Ng;have:k=j:=by omega
      subst this;rcases Nj with z|z|z
      .omega
      .exact .inr ⟨z.2.1,f1.1,z.2.2⟩
      grind
    refine bB F Y o qh Nn S8 2 [] [] [] 4 (i6 z) (λM=>M) 0 68 8 [8] λa c b b=>K m' p' N a (ptr x) z (by omega) Vh {C' with sat:=c.sat,bd:=by omega} f1.1.el f1.1.tc hfo (by rw[f4,e2];rfl) (by rw[f6,e2];rfl)
end
section
variable{J:LS}
theorem Mm(W:jF E D J t)(hj:j<D.V.nl)(A:(D.V.ly j).k=5)(IH:dV E D J t (j+1)):dV E D J t j:=by
 intro m p s w v R c U C hf v K;rw[show iq D.V j=178 by unfold iq;rw[af (by omega),af (by rw[A];decide),af (by rw[A];decide),af (by rw[A];decide),ah A]];have F:=W.f p;have o:=W.hB p;have m:=C.bd;have m:=C.sat;refine cJ func178 m 43 λbb m m hn a O m w p=>aq F o a m w 10 [] [] [] [(7,ptr (D.T t)),(6,ptr (D.lb j)),(0,ptr (D.lb j)),(1,ptr (D.T t))] (λM=>M) 0 10 1 [] λm m p m w w w=>GM F a m 8 180 #[ptr (D.lb j),ptr (D.T t)] (by kernel_rfl) (by kernel_rfl) (by decide) p λm m=>Im W hj A {C with sat:=p.sat,bd:=by omega} hf v λm1 p1 T w2 v1 z p Xs C1 Ty ZA p OP Qs=>m.ret _ _ _ _ _ C1.sat λa2 m S2 DF m=>?_;have m:=C1.bd;replace F:=W.f p1;replace o:=W.hB p1;have y:=C1.eH.lay j hj;rcases p with ⟨rfl,g⟩|⟨rfl,FR,g⟩
 .refine aq F o a DF S2 22 [] [1,1] [] [(30,ptr (D.T t)),(29,ptr (D.lb j)),(0,ptr (D.lb j)),(1,ptr (D.T t))] (λM=>M) 0 33 4 [] λa3 w3 S3 N YF yO mH=>bu F a N S3 31 149 #[ptr (D.lb j),ptr (D.T t),i6 13,i6 0] λDl l=>iU W {C1 with sat:=S3.sat,bd:=by omega} Ty ZA y λS w4 Q u FO=>l _ _ _ (Q.sat.get ((y.pre _).cons.app (pM S))) λa4 B4 S4 L Bj=>?_;have VH:=Q.bd;replace u:S.l=T.l.say t j 13 0:=u;rw[<-u]at g;obtain⟨ty,m,IZ⟩:=xT D (j+1);rw[m]at S4;unfold dV at IH;generalize iq D.V (j+1)=gf at*;refine aq F o a L S4 5 [] [] [] [(33,ptr (D.T t)),(32,ptr (D.lb j)),(0,ptr (D.lb j)),(1,ptr (D.T t))] (λM=>M) 0 39 4 [] λa5 w5 S5 I Y5 Dw qO=>dfy F hn I 179 [ptr (D.lb j),ptr (D.T t)] (by kernel_rfl) (by kernel_rfl) (by kernel_rfl) S5 λm d m d XG=>aq F o a d m 9 [0,0,0,1] [] [] [(39,ptr (D.T t)),(38,.iface ty (.pointer (some (Addr.mk (D.lb (j+1)) 0 none))))] (λM=>M) 0 49 4 [] λd w7 S7 d m m m=>GM F a d 40 gf #[ptr (D.lb (j+1)),ptr (D.T t)] (by rcases IZ with ⟨rfl,rfl⟩|⟨rfl,rfl⟩|⟨rfl,rfl⟩|⟨rfl,rfl⟩|⟨rfl,rfl⟩|⟨rfl,rfl⟩<;>kernel_rfl) (by kernel_rfl) (by decide) S7 λZ XK=>IH m1 p1 S w7 v1 R Z (c::U) {Q with sat:=S7.sat.tail,bd:=by omega} g Xs λd V s' w' v' X r b d d C' d hr Jc DG=>?_;obtain⟨m2,rfl,Y,m,YR⟩:=CS A d;have d:=C'.bd;replace F:=W.f V;replace o:=W.hB V;have d:(s'.l.fC t j).tk=s'.l.tk:=by unfold LS.fC;split<;>rfl
  have XM:∀i,i<j->((s'.l.fC t j).tk t).a i=(s.l.tk t).a i:=λi f=>by rw[d,Jc i (by omega),u];show(T.l.tk t).a i=_;rw[OP]
  have Tp:∀i,i<j->((s'.l.fC t j).tk t).q i=(s.l.tk t).q i:=λi f=>by rw[d,DG i (by omega),u];show(T.l.tk t).q i=_;rw[Qs]
  have Zs:=hr;have d:(∃x e0,r=.inl (.tuple #[i6 x,e0]))\/r=.inr (.iface 166 (i6 b.n)):=by
   rcases hr with ⟨_,h⟩|⟨_,e,h,_⟩|⟨_,h⟩
   .exact .inl ⟨_,_,h⟩
   .exact .inl ⟨_,_,h⟩
   .exact .inr h
  rcases d with ⟨x,e0,rfl⟩|rfl
  .refine XK.ret _ _ _ _ _ C'.sat λa8 d e H d=>aq F o a H e 5 [] [] [] [(5,ev [(4,i6 x),(42,#[i6 x,e0][1]),(41,i6 x),(40,.tuple #[i6 x,e0]),(39,ptr (D.T t)),(38,.iface ty (.pointer (some (Addr.mk (D.lb (j+1)) 0 none))))] (Operand.tmp 42)),(4,i6 x)] (λM=>M) 0 55 4 [] λm d d e h h h=>Mj F (by kernel_rfl) e XG f179 func179 _ rfl (by kernel_rfl) 39 (by kernel_rfl) d λDq P k=>Be W hj A {C' with sat:=d.sat,bd:=by omega} Y P k (by have:=d.sz;omega) λs2 a2 w2 n bs qs q1 q2 q3 B q5=>NW F q1 q2 f179 func179 (by kernel_rfl) ?_;refine G6 F (a:=⟨m.tmps,[]⟩) (N:=43) ⟨d.env.sz,d.env.val⟩ q3.sat a O rfl [] (.tuple #[i6 x,e0]) (by kernel_rfl) (by kernel_rfl) ?_;exact K m2 V s2 w2 v' X _ b (by omega) (by omega) q3 (by rw[B];exact YR) Zs (λi f=>by rw[B];exact XM i f) (λi f=>by rw[B];exact Tp i f)
  .obtain⟨a8,t8,rfl,H,d⟩:=XK.NO;show E.Ψ V (G ((bb.at a8 t8).raise (je (.iface 166 (i6 b.n)))) (c::U)) w';rw[raise_at hn.m];refine Tc F H XG f179 func179 _ rfl (by kernel_rfl) 39 (by kernel_rfl) C'.sat λDq c P k c=>Be W hj A C' Y P k c λs2 a2 w2 n bs qs q1 q2 q3 B q5=>Xe F q1 q2 f179 func179 (by kernel_rfl) ?_;refine F.lJ rfl (by rw[O];exact func178) ?_;exact K m2 V s2 w2 v' X (.inr (.iface 166 (i6 b.n))) b (by omega) (by omega) q3 (by rw[B];exact YR) Zs (λi f=>by rw[B];exact XM i f) (λi f=>by rw[B];exact Tp i f)
 .refine aq F o a DF S2 14 [] [3] [] [(14,ptr (D.T t)),(13,ptr (D.lb j))] (λM=>M) 0 25 3 [] λa3 w3 S3 N YF yO mH=>bu F a N S3 15 168 #[ptr (D.lb j),ptr (D.T t)] λDl l=>rL W {C1 with sat:=S3.sat,bd:=by omega} hj FR λS w4 q Q u FO=>l _ _ _ Q.sat λa4 B4 S4 L Bj=>?_;have VH:=Q.bd;refine aq F o a L S4 5 [] [] [] [(5,.iface 168 (ptr q)),(4,i6 0)] (λM=>M) 0 31 3 [] λa5 w5 S5 I Y5 Dw qO=>cC F S5 a O I [] (.tuple #[i6 0,.iface 168 (ptr q)]) ?_;rw[<-u]at g;exact K m1 p1 S w5 v1 [oR q 0 [i6 3,i6 j,i6 0,.nilIface] false] (.inl (.tuple #[i6 0,.iface 168 (ptr q)])) (c9 3 j 0) (by omega) Xs {Q with sat:=S5.sat,bd:=by omega} g (.inr (.inl ⟨rfl,_,rfl,q,.nilIface,rfl,⟨rfl,0,rfl⟩,rfl⟩)) (λi f=>by rw[u];show(T.l.tk t).a i=_;rw[OP]) (λi f=>by rw[u];show(T.l.tk t).q i=_;rw[Qs])
end
theorem Bz{γ:Type}{E:TE γ}{D:PK}{J:LS}{t:Nat}(W:jF E D J t):∀n j,j+n=D.V.nl->dV E D J t j
 |0,j,h=>by have e:j=D.V.nl:=h;rw[e];exact Oi W
 |n+1,j,h=>by
  have a:=Bz W n (j+1) (by omega);rcases W.V.kd j (by omega)with z|z|z|z|z
  .exact Ij W (by omega) z a
  .exact Je W (by omega) z a
  .exact Mq W (by omega) z a
  .exact RZ W (by omega) z a
  .exact Mm W (by omega) z a
end Go.Proofs.YtobagnjnbmgidaaGreatDoor
