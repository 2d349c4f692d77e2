import Derived.Test.YtobagnjnbmgidaaGreatDoorP1
set_option linter.all false
set_option maxHeartbeats 0
set_option maxRecDepth 100000
namespace Go.Proofs.YtobagnjnbmgidaaGreatDoor
open Go.Conc Go.RowKit Tryz
variable{b:Bk}{V:Ev0}{n:Int}{L:LS}{y:ko}{j m:Nat}{C R:aX}{w:aj}{c cf:aE}{e v:ay}{cs:cW}
variable{main:Bool}{B t:Nat}{Ok:dw}{Ψ:gi}{γ:Type}{kk:PK}{Lf:LS}{E:TE γ}
theorem R3(F:aC prog main (DX Ok) Ψ)(hB:HB B Ok){bb:aE}(d:bb.kind=.normal)(h:bb.fn=164){cf:aE}{cs:cW}{C:aX}{a:Int}:∀(ch:List iF)(x:iF)(q:Nat)(s:ay),Has C (oR q 0 [i6 x.k,i6 x.l,i6 x.n,s] false)->lz C s ch->
 ∀u w B1,u.defers=[]->B<=B1->w.heap.size=B1->St Ok B1 54 [(0,.iface 168 (ptr q)),(1,.iface 171 (i6 a)),(2,.bool true)] C 0 u w->(∀w',Sat Ok w' C->w.heap.size<=w'.heap.size->Ψ (G (cf.finish (.bool ((x::ch).any λy=>y.k==a))) cs) w')->Ψ (G (bb.at u (pc prog 164 6 [] [])) (cf::cs)) w
 |ch,x,q,s,Q,o,u,w,B1,g,A,J,r,K=>by
  replace r:=r.get Q
  by_cases hk:x.k=a
  .have f:(x.k==a)=true:=by simpa using hk
   rw[Bb,f,uv]at K;refine qC F hB d h g r 54 [0,0,0,1] [3,3,3,1,3,3,3,2] [] 6 (.bool true) (λM=>M) 0 44 [false,true] [] [(a==x.k,true)] [] [] λi p k l=>?_
   exact K i p.sat.tail (by omega)
  .have f:(x.k==a)=false:=by simpa using hk
   rw[Bb,f,uy]at K
   match ch,o with
   |[],o=>
    have D:s=.nilIface:=o;subst D;refine qC F hB d h g r 96 [0,0,0,1,0,0,3,1] [3,3,3,1,3,3,3,0,3,3] [] 6 (.bool false) (λM=>M) 0 73 [false,false,true,true] [] [(a==x.k,false)] [] [] λi p k l=>?_
    exact K i p.sat.tail (by omega)
   |y::ch,o=>
    obtain⟨z,e2,rfl,P,O⟩:=o;refine bA F hB d g r 96 [0,0,0,1,0,0,3,1] [3,3,3,1,3,3,3,0,3,1] [] [(0,.iface 168 (ptr z)),(29,.bool (a==x.k)),(28,.iface 171 (i6 a)),(27,.iface 168 (ptr q)),(18,.bool false),(17,.iface 171 (i6 a)),(16,.iface 168 (ptr q)),(1,.iface 171 (i6 a)),(2,.bool true)] (λM=>M) 0 73 [false,false,true,false] [] [(a==x.k,false)] [] [] λT i p H k l S=>?_
    have I:=p.dD [(0,.iface 168 (ptr z)),(1,.iface 171 (i6 a)),(2,.bool true)] (by kernel_rfl);rw[show pc prog 164 73 [false,false,true,false] []=pc prog 164 6 [] [] by kernel_rfl];exact R3 F hB d h ch y z e2 P O T i B1 H A (by omega) ⟨I.env,I.sat.tail,I.sz⟩ λw' N U=>K w' N (by omega)
theorem JE(F:aC prog main (DX Ok) Ψ)(hB:HB B Ok){ch:List iF}{a:Int}(k:lz C e ch)(i:ch≠[])(X:Sat Ok w C)(Y:B<=w.heap.size)(K:∀w',Sat Ok w' C->w.heap.size<=w'.heap.size->Ψ (G (cf.finish (.bool (ch.any λy=>y.k==a))) cs) w'):
 Ψ (G (Frame.enter prog 163 #[e,.iface 171 (i6 a)] .normal) (cf::cs)) w:=by
 match ch,k with
 |[],_=>exact absurd rfl i
 |x::ch,k=>
  obtain⟨q,e',rfl,h1,h2⟩:=k;refine dg f163 func163 _ rfl 22 (by kernel_rfl) X λbb a0 B1 hn f u s S0 P=>?_
  refine aq F hB f s S0 28 [] [1,1,1] [] [(20,.bool true),(19,.iface 171 (i6 a)),(18,.iface 168 (ptr q))] (λM=>M) 0 28 [false] [] λa1 w1 z r O U dS=>?_
  refine bK F f r z 21 164 #[.iface 168 (ptr q),.iface 171 (i6 a),.bool true] λgJ g=>?_
  refine dg f164 func164 _ rfl 54 (by kernel_rfl) z.sat λbb2 a2 B2 W d h p S2 N=>?_
  refine aq F hB d p S2 6 [] [] [] [(0,.iface 168 (ptr q)),(1,.iface 171 (i6 a)),(2,.bool true)] (λM=>M) 0 6 [] [] λa3 D S3 o J T dX=>?_
  refine R3 F hB d h ch x q e' h1 h2 a3 D B2 o (by omega) (by omega) S3 λw4 Z S=>g _ _ _ Z λa5 B5 S5 l I=>?_
  refine bP F hB f u l S5 2 [] [] [] 4 (.bool (List.any (x::ch) λy=>y.k==a)) (λM=>M) 0 31 [false] [] λA S6 H Q=>?_
  exact K A S6.sat (by omega)
theorem Ap(F:aC prog main (DX Ok) Ψ)(hB:HB B Ok)(p:lz C e b.ch)(d:b.ch≠[])(hS:Sat Ok w C)(gp:B<=w.heap.size)(K:∀w',Sat Ok w' C->w.heap.size<=w'.heap.size->Ψ (G (cf.finish (.bool (cC b 2||cC b 5))) cs) w'):
 Ψ (G (Frame.enter prog 158 #[e] .normal) (cf::cs)) w:=by
 obtain⟨q,hq⟩:∃q,e=.iface 168 (ptr q):=by
  cases g:b.ch with
  |nil=>exact absurd g d
  |cons y ch=>rw[g]at p;obtain⟨q,_,h,_⟩:=p;exact⟨q,h⟩
 subst hq;refine dg f158 func158 _ rfl 11 (by kernel_rfl) hS λbb a0 B1 hn a l D S0 W=>?_
 refine aq F hB a D S0 8 [] [] [] [(4,.iface 171 (i6 2)),(3,.iface 168 (ptr q)),(0,.iface 168 (ptr q))] (λM=>M) 0 8 [] [] λa1 w1 J A U jA dS=>?_
 refine bK F a A J 5 163 #[.iface 168 (ptr q),.iface 171 (i6 2)] λgJ k=>?_
 refine JE F hB p d J.sat (by omega) λP h2 Z=>k _ _ _ h2 λa2 B2 o f T=>?_
 change St Ok B2 11 ((5,.bool (cC b 2))::_) C 0 a2 P at o
 cases h:cC b 2 with
 |true=>
  rw[h]at o K;refine bP F hB a l f o 7 [] [3,3,3] [] 2 (.bool true) (λM=>M) 0 16 [] [] λH r s u=>?_
  exact K H r.sat (by omega)
 |false=>
  rw[h]at o K;refine aq F hB a f o 3 [] [1,1] [] [(8,.iface 171 (i6 5)),(6,.bool false),(7,.iface 168 (ptr q))] (λM=>M) 0 12 [] [] λa3 H r z s u dX=>?_
  refine bK F a z r 9 163 #[.iface 168 (ptr q),.iface 171 (i6 5)] λlq i=>?_
  refine JE F hB p d r.sat (by omega) λO h4 Y=>i _ _ _ h4 λa4 B4 I x S=>?_
  change St Ok B4 11 ((9,.bool (cC b 5))::_) C 0 a4 O at I
  rw[uy]at K;refine bP F hB a l x I 3 [] [] [] 2 (.bool (cC b 5)) (λM=>M) 0 16 [] [] λN S5 Q X=>?_
  exact K N S5.sat (by omega)
theorem DW(hj:j<V.nl)(hk:(V.ly j).k=1)(h:Fin V Lf m (some (t,j,none)) L):∃a,m=a+1/\Fin V Lf a (some (t,j+1,none)) (L.lD t j 1):=by
 cases m with
 |zero=>exact h.elim
 |succ m=>
  obtain⟨i,g,f,d⟩:=h;have e:(j=V.nl)=False:=by simp;omega
  simp only[LS.step,e,if_false,hk,if_true]at d;exact⟨m,rfl,d⟩
structure UU(V:Ev0)(Lf:LS)(m0 t j:Nat)(b:Bk)(L:LS):Prop where
 sk:xg V t L
 bk:Is b
 an:1<=(L.tk t).a j/\(L.tk t).a j<=(V.ly j).a
 out:(b.k≠2\/cC b 2=true\/cC b 5=true)->Fin V Lf m0 (some (t,j,some b)) L
 up:¬(b.k≠2\/cC b 2=true\/cC b 5=true)->(L.tk t).a j=(V.ly j).a->Fin V Lf m0 (some (t,j,some ⟨2,0,⟨7,j,0⟩::b.ch⟩)) (L.say t j 4 0)
 on:¬(b.k≠2\/cC b 2=true\/cC b 5=true)->(L.tk t).a j≠(V.ly j).a->0<aH (V.ly j) ((L.tk t).a j)->Fin V Lf m0 none (((L.say t j 3 (aH (V.ly j) ((L.tk t).a j))).lD t j ((L.tk t).a j+1)).wait t j (aH (V.ly j) ((L.tk t).a j)))
 on0:¬(b.k≠2\/cC b 2=true\/cC b 5=true)->(L.tk t).a j≠(V.ly j).a->¬0<aH (V.ly j) ((L.tk t).a j)->Fin V Lf m0 (some (t,j+1,none)) ((L.say t j 3 (aH (V.ly j) ((L.tk t).a j))).lD t j ((L.tk t).a j+1))
theorem D1(hk:(V.ly j).k=1)(h:Fin V Lf m (some (t,j+1,some b)) L):∃i,m=i+1/\UU V Lf i t j b L:=by
 cases m with
 |zero=>exact h.elim
 |succ m=>
  obtain⟨o,p,l,a⟩:=h;have e:(j+1=0)=False:=by simp
  have k:=(l b rfl).2 (by omega);rw[fY]at k;refine⟨m,rfl,o,(l b rfl).1,k hk,λd=>?_,λd f=>?_,λd f g=>?_,λd f g=>?_⟩
  .simp only[LS.step,e,if_false,fY,hk,if_true,d]at a
   exact a
  .simp only[LS.step,e,if_false,fY,hk,if_true,d,f]at a
   exact a
  .simp only[LS.step,e,if_false,fY,hk,if_true,d,f,gt_iff_lt,g]at a
   exact a
  .simp only[LS.step,e,if_false,fY,hk,if_true,d,f,gt_iff_lt,g]at a
   exact a
theorem lR{c d:Int}(hc:1<=c)(f:0<=d):∀(m:Nat)(p:Int),0<=p->min (dF c d (m+1) p) d=min (min (dF c d m p) d*c) d/\0<=dF c d m p
 |0,p,a=>by
  refine⟨?_,a⟩
  show min (if p<=d then p*c else p) d=min (min p d*c) d
  by_cases h:p<=d
  .rw[ah h,Int.min_eq_left h]
  .rw[af h,Bi (by omega)]
   have g:d<=d*c:=by have:=Ze hc f;rwa[Int.mul_one]at this
   rw[Bi g]
 |m+1,p,a=>by
  have e1:dF c d (m+2) p=if p<=d then dF c d (m+1) (p*c)else p:=rfl
  have e2:dF c d (m+1) p=if p<=d then dF c d m (p*c)else p:=rfl
  rw[e1,e2]
  by_cases h:p<=d
  .rw[ah h,ah h]
   exact lR hc f m (p*c) (rI a (by omega))
  .rw[af h,af h]
   refine⟨?_,a⟩;rw[Bi (by omega)];have g:d<=d*c:=by have:=Ze hc f;rwa[Int.mul_one]at this
   rw[Bi g]
theorem jq(y:ko)(n:Int):aH y n=min (dF y.c y.d (n-1).toNat y.b) y.d:=by
 unfold aH;simp only[Int.min_def];split<;>split<;>omega
theorem yd(y:ko):aH y 1=min y.b y.d:=by rw[jq];rfl
theorem vO(d:0<=y.b)(hc:1<=y.c)(a:0<=y.d)(f:1<=n):aH y (n+1)=min (aH y n*y.c) y.d:=by
 rw[jq,jq,show(n+1-1).toNat=(n-1).toNat+1 by omega];exact(lR hc a _ _ d).1
theorem zZ(d:0<=y.b)(hc:1<=y.c)(a:0<=y.d)(n:Int):0<=aH y n/\aH y n<=y.d:=by
 rw[jq];have:=(lR hc a (n-1).toNat y.b d).2;omega
theorem NH(L:LS)(t:Nat)(l d:Int):(L.wait t l d).NI L.wl ⟨0,0,[]⟩=L.wait t l d:=by
 unfold LS.NI LS.wait LS.put LS.cY
 simp only
 congr 1
 funext i
 unfold upd
 by_cases e:i=L.wl<;>simp[e]
theorem PS.Wn{s:PS}(h:s.l=L):∃a:PS,s={a with l:=L}:=⟨s,by cases s;simp at h;subst h;rfl⟩
theorem Cn.lD{p:γ}{s:PS}{w:aj}{v:ay}{R:aX}(C:Cn E kk t p s w v R)(j:Nat)(n:Int):Cn E kk t p {s with l:=s.l.lD t j n} w v R:=
 ⟨C.sat,⟨C.pv.jr,C.pv.en,C.pv.eo,C.pv.fb⟩,⟨C.qi.lt,C.qi.all,C.qi.Bw,C.qi.ws⟩,C.fl,C.fJ,C.bd,C.gu.trans ⟨rfl,rfl,rfl,rfl,rfl,rfl,rfl,rfl,rfl,λi a=>by show upd _ _ _ i=_;simp[upd,a],λ_ _=>rfl,λ_ _=>⟨rfl,rfl⟩⟩,C.hk,C.ql⟩
theorem Nw(W:l7 E kk Lf t){p:γ}{s:PS}(C:Cn E kk t p s w v R)(hk:xg kk.V t s.l)(hj:j<kk.V.nl){a:Int}(hp:0<=a/\a<=10000)(pP:0<a->Fin kk.V Lf m none (((s.l.say t j 3 a).lD t j n).wait t j a))(wW:¬0<a->Fin kk.V Lf m (some (t,j+1,none)) ((s.l.say t j 3 a).lD t j n))(r:m<=E.qT p)(K:∀q o h w' v',q<=m->q<=E.qT o->Cn E kk t o h w' v' R->Fin kk.V Lf q (some (t,j+1,none)) h.l->(h.l.tk t).a=(((s.l.say t j 3 a).lD t j n).tk t).a->(h.l.tk t).q=(s.l.tk t).q->E.Ψ o (G (c.finish (.bool true)) cs) w'):
 E.Ψ p (G (Frame.enter prog 157 #[ptr (kk.lb j),ptr (kk.T t),i6 a] .normal) (c::cs)) w:=by
 have F:=W.f p;have hB:=W.hB p;have wY:=C.bd;have hS:=C.sat;refine dg f157 func157 _ rfl 24 (by kernel_rfl) hS λbb a0 B1 hn d J jf S0 iI=>?_
 refine aq F hB d jf S0 11 [] [] [] [(11,i6 a),(10,ptr (kk.T t)),(9,ptr (kk.lb j)),(1,ptr (kk.T t)),(2,i6 a)] (λM=>M) 0 11 [] [] λa1 w1 S1 kJ iH jA dS=>?_
 refine bK F d kJ S1 12 149 #[ptr (kk.lb j),ptr (kk.T t),i6 3,i6 a] λgJ I=>?_
 refine lH W {C with sat:=S1.sat,bd:=by omega} hk.el hk.tc (C.fJ.lay j hj) λf w2 N e2 je=>I _ _ _ N.sat λa2 B2 S2 A fV=>?_
 have J0:=N.bd;obtain⟨f,rfl⟩:=PS.Wn e2;have C3:=N.lD j n
 by_cases h0:a=0
 .subst h0
  refine bP F hB d J A S2 35 [7,0,2,1] [1,3,3,3,3,3] [] 6 (.bool true) (λM=>M) 0 34 [false] [] λP O Q S=>?_
  exact K m p {f with l:=(s.l.say t j 3 0).lD t j n} P v (az _) r {C3 with sat:=O.sat,bd:=by omega} (wW (by omega)) rfl (by simp[LS.lD,LS.say,upd])
 .have U:0<a:=by omega
  refine bA F hB d A S2 29 [7,0,2,1] [1,0,1] [] [(19,i6 a),(17,.bool false),(18,ptr (kk.T t))] (λM=>M) 0 28 [false] [] [(a==0,false)] [] [] λa3 P O jF Q S dX=>?_
  refine bK F d jF O 20 162 #[ptr (kk.T t),i6 a] λlq H=>?_
  have LL:=hk.now;refine xK (s:={f with l:=(s.l.say t j 3 a).lD t j n}) (t:=t) (aR:=kk.aR t) (ly:=j) F hB (w:=P) O.sat (by have h5:=(N.fJ.nL t W.tn).pre (E.P p {f with l:=s.l.say t j 3 a});have h6:f.k=kk:=N.hk;show Has _ (zL _ f.k.A _ _);rw[show f.k.A=kk.A from cP PK.A h6];exact h5) C3.pv C3.qi C3.YF (by omega) C3.ql (by show _<=s.l.now+a;omega) (by show s.l.now+a<_;omega) λi x en eb w4 h4 T Q4 hi Sa R9=>H _ _ _ h4 λa4 B4 S4 oD jP=>?_
  refine Mm F d oD 21 153 #[ptr x] (by kernel_rfl) (by kernel_rfl) (by decide) S4 λYT D=>?_
  refine W.wait p {f with l:=(s.l.say t j 3 a).lD t j n} w4 i x en eb j a ⟨0,0,[]⟩ YT _ R (ptr x) m C3.gu C3.hk (by omega) hi S4.sat T Q4 C3.fl C3.fJ (by omega) (by rw[NH];exact pP U) r λo h w5 q GM X C' f1 f2 f3 f4 f5 f6=>D.ret _ _ _ _ _ C'.sat λa5 B5 S5 nC mz=>?_
  have sF:=C'.bd;replace F:=W.f o;replace hB:=W.hB o;obtain⟨hs5,Z⟩:=f1
  have u:Fin kk.V Lf q (some (t,j+1,none)) h.l:=by
   rcases Z with ⟨z,_⟩|⟨k,LR,_,Y,g⟩
   .rw[f2]at z;omega
   .rw[f2]at Y
    have:k=j:=by omega
    rw[this]at g;exact g
  refine bP F hB d J nC S5 4 [] [1] [] 6 (.bool true) (λM=>M) 0 34 [false] [] λw6 S6 oS yw=>?_
  exact K q o h w6 (ptr x) (by omega) X {C' with sat:=S6.sat,bd:=by omega} u f4 (by rw[f6];simp[LS.lD,LS.say,upd])
theorem Cn.drop{p:γ}{s:PS}{X:aX}(C:Cn E kk t p s w v (X++R))(h:ze kk R):Cn E kk t p s w v R:=
 ⟨C.sat.sub (nR (.cons_cons _ (EP (EQ X R) _)) _),C.pv,C.qi,bN.2 λr a=>bN.1 C.fl r (by
  simp only[dZ]at a ⊢;exact a.imp_left .inr),h,C.bd,C.gu,C.hk,C.ql⟩
theorem Ge(x y:Int):(if y<x then y else x)=min x y:=by rw[Int.min_def];split<;>split<;>omega
theorem Jg(W:l7 E kk Lf t)(hj:j<kk.V.nl)(hk:(kk.V.ly j).k=1)(IH:eM E kk Lf t (j+1))(o:ze kk R){bb:aE}(hn:UG bb 156)(g gq:Nat->Int):
 ∀(m:Nat)(n:Int)(p:γ)(s:PS)(w:aj)(v:ay)(a0:Act)(B1:Nat),Cn E kk t p s w v R->Fin kk.V Lf m (some (t,j+1,none)) s.l->m<=E.qT p->(s.l.tk t).a j=n->(1<=n/\n<=(kk.V.ly j).a)->(∀i,i<j->(s.l.tk t).a i=g i)->(∀i,i<j->(s.l.tk t).q i=gq i)->a0.defers=[]->w.heap.size=B1->
   St (E.Ok p) B1 80 [(7,i6 n),(6,i6 (aH (kk.V.ly j) n)),(0,ptr (kk.lb j)),(1,ptr (kk.T t))] (pM s++(fI (kk.T t) v false::(R++E.P p s))) 0 a0 w->
   (∀m' k d w' N X r b,m'<m->m'<=E.qT k->Cn E kk t k d w' N (X++R)->Fin kk.V Lf m' (some (t,j,some b)) d.l->PJ X r b->(∀i,i<j->(d.l.tk t).a i=g i)->(∀i,i<j->(d.l.tk t).q i=gq i)->E.Ψ k (G (ends c r) cs) w')->
   E.Ψ p (G (bb.at a0 (pc prog 156 16 [] [8])) (c::cs)) w:=by
 intro m
 induction m using Nat.strongRecOn with
 |_ m ihm=>
 intro n p s w v a0 B1 C hf JV ha qV hg hgq jf iI S0 K;have F:=W.f p;have hB:=W.hB p;have wY:=C.bd;have a:=hn.k;have P:=hn.f;obtain⟨ty,GC,LV⟩:=su W.V hj;have f:=o.lay j hj;rw[GC]at f;unfold eM at IH;generalize fZ kk.V (j+1)=gf at*;have hV:=W.V.rt j hj hk;replace S0:=S0.get ((f.pre _).cons.app (pM s));refine aq F hB a jf S0 10 [0,0,0,1] [] [] [(27,ptr (kk.T t)),(26,.iface ty (.pointer (some (Addr.mk (kk.lb (j+1)) 0 none)))),(7,i6 n),(6,i6 (aH (kk.V.ly j) n)),(0,ptr (kk.lb j)),(1,ptr (kk.T t))] (λM=>M) 0 26 [] [8] λa1 w1 S1 kJ iH jA dS=>?_
 refine Mm F a kJ 28 gf #[ptr (kk.lb (j+1)),ptr (kk.T t)] (by rcases LV with ⟨rfl,rfl⟩|⟨rfl,rfl⟩|⟨rfl,rfl⟩|⟨rfl,rfl⟩|⟨rfl,rfl⟩<;>kernel_rfl) (by kernel_rfl) (by decide) S1 λcf OI=>?_
 refine IH m p s w1 v R cf (c::cs) {C with sat:=S1.sat.tail,bd:=by omega} hf JV λm' k d w' N X r b GM uR C' Ik hr Ay Il=>?_
 obtain⟨m1,rfl,A⟩:=D1 hk Ik;have sF:=C'.bd;replace F:=W.f k;replace hB:=W.hB k;have Q:(d.l.tk t).a j=n:=(Ay j (by omega)).trans ha;have D:∀i,i<j->(d.l.tk t).a i=g i:=λi x=>(Ay i (by omega)).trans (hg i x)
 have u:∀i,i<j->(d.l.tk t).q i=gq i:=λi x=>(Il i (by omega)).trans (hgq i x)
 rcases hr with ⟨hb,rfl⟩|⟨hb,e,rfl,he⟩|⟨hb,rfl⟩
 .refine OI.ret _ _ _ _ _ C'.sat λa2 B2 S2 I fV=>?_
  refine aq F hB a I S2 24 [] [3,3,3] [] [(5,.nilIface),(4,i6 b.n)] (λM=>M) 0 51 [true] [8] λa3 w3 S3 jF gQ ji dX=>?_
  refine cV F S3 a P jF [] (.tuple #[i6 b.n,.nilIface]) ?_;exact K m1 k d w3 N X (.inl (.tuple #[i6 b.n,.nilIface])) b (by omega) (by omega) {C' with sat:=S3.sat,bd:=by omega} (A.out (.inl (by omega))) (.inl ⟨hb,rfl⟩) D u
 .have O:b.ch≠[]:=by
   rcases A.bk.2.2 with ⟨z,_⟩|⟨_,_,z⟩|⟨z,_⟩
   .omega
   .exact z
   .omega
  obtain⟨q,rfl⟩:∃q,e=.iface 168 (ptr q):=by
   cases gI:b.ch with
   |nil=>exact absurd gI O
   |cons y ch=>rw[gI]at he;obtain⟨q,_,h,_⟩:=he;exact⟨q,h⟩
  refine OI.ret _ _ _ _ _ C'.sat λa2 B2 S2 I fV=>?_
  refine aq F hB a I S2 13 [] [1] [] [(34,.iface 168 (ptr q)),(33,.bool false),(9,.iface 168 (ptr q)),(8,i6 0),(7,i6 n),(6,i6 (aH (kk.V.ly j) n)),(0,ptr (kk.lb j)),(1,ptr (kk.T t))] (λM=>M) 0 40 [] [8] λa3 w3 S3 jF gQ ji dX=>?_
  refine bK F a jF S3 35 158 #[.iface 168 (ptr q)] λlq Au=>?_
  have heM:lz (pM d++(fI (kk.T t) N false::((X++R)++E.P k d))) (.iface 168 (ptr q)) b.ch:=he.up λr hr=>(((hr.pre R).pre _).cons).app (pM d)
  refine Ap F hB heM O S3.sat (by omega) λw4 h4 oB=>Au _ _ _ h4 λa4 B4 S4 oD jP=>?_
  by_cases hh:cC b 2=true\/cC b 5=true
  .have Z:(cC b 2||cC b 5)=true:=by simpa using hh
   rw[Z]at S4;refine aq F hB a oD S4 10 [] [3] [] [(5,.iface 168 (ptr q)),(4,i6 0)] (λM=>M) 0 51 [true] [8] λa5 w5 S H mz kT jv=>?_
   refine cV F S a P H [] (.tuple #[i6 0,.iface 168 (ptr q)]) ?_;exact K m1 k d w5 N X (.inl (.tuple #[i6 0,.iface 168 (ptr q)])) b (by omega) (by omega) {C' with sat:=S.sat,bd:=by omega} (A.out (.inr hh)) (.inr (.inl ⟨hb,_,rfl,he⟩)) D u
  .have Z:(cC b 2||cC b 5)=false:=by simpa using hh
   rw[Z]at S4;have U:¬(b.k≠2\/cC b 2=true\/cC b 5=true):=λz=>z.elim (λy=>y hb) hh
   replace S4:=(S4.get ((((o.Jd j hj hk).app X).pre _).cons.app (pM d))).get (((((f.app X).pre _).cons).app (pM d)).cons)
   by_cases Y:n=(kk.V.ly j).a
   .refine bA F hB a oD S4 21 [1,0,0,1] [1,2] [] [(48,ptr (kk.T t)),(47,ptr (kk.lb j)),(9,.iface 168 (ptr q)),(0,ptr (kk.lb j))] (λM=>M) 0 62 [false,true] [8] [(n==(kk.V.ly j).a,true)] [] [] λa5 w5 S H mz kT jv=>?_
    refine bK F a H S 49 149 #[ptr (kk.lb j),ptr (kk.T t),i6 4,i6 0] λEB J=>?_
    refine lH W {C' with sat:=S.sat.tail.tail,bd:=by omega} A.sk.el A.sk.tc (f.app X) λs6 w6 l e6 yw=>J _ _ _ (l.sat.get ((((f.app X).pre _).cons).app (pM s6))) λa6 T S6 nB oS=>?_
    have Tm:=l.bd;refine aq F hB a nB S6 27 [0,0,1,1] [] [] [(5,.iface 168 (ptr T)),(4,i6 0)] (λM=>bR (T) [i6 7,i6 j,i6 0,.iface 168 (ptr q)]::(M)) 1 76 [false,true] [8] λa7 w7 S7 lW oA oT tu=>?_
    refine cV F S7 a P lW [] (.tuple #[i6 0,.iface 168 (ptr T)]) ?_;have Z5:=A.up U (Q.trans Y);rw[<-e6]at Z5;exact K m1 k s6 w7 N (oR T 0 [i6 7,i6 j,i6 0,.iface 168 (ptr q)] false::X) _ _ (by omega) (by omega) ⟨(Sat.D6 (A:=[oR T 0 [i6 7,i6 j,i6 0,.iface 168 (ptr q)] false]) S7.sat.fix).perm (gO (A:=pM s6)),l.pv,l.qi,l.fl.cons rfl,l.fJ.cons,by omega,l.gu,l.hk,l.ql⟩ Z5 (.inr (.inl ⟨rfl,_,rfl,T,.iface 168 (ptr q),rfl,⟨rfl,0,rfl⟩,he.up λr hr=>hr.cons⟩)) (λi x=>by rw[e6];exact D i x) (λi x=>by rw[e6];exact u i x)
   .refine bA F hB a oD S4 22 [1,0,0,1] [1,0] [] [(59,i6 (aH (kk.V.ly j) n)),(58,ptr (kk.T t)),(57,ptr (kk.lb j)),(35,.bool false),(34,.iface 168 (ptr q)),(7,i6 n),(6,i6 (aH (kk.V.ly j) n)),(0,ptr (kk.lb j)),(1,ptr (kk.T t))] (λM=>M) 0 63 [false,false] [8] [(n==(kk.V.ly j).a,false)] [] [] λa5 w5 S H mz kT jv=>?_
    refine Mm F a H 60 157 #[ptr (kk.lb j),ptr (kk.T t),i6 (aH (kk.V.ly j) n)] (by kernel_rfl) (by kernel_rfl) (by decide) S λEB J=>?_
    have Oi:=zZ hV.2.1.1 hV.2.2.1.1 hV.2.2.2.1 n;have f1:=A.on U (by rw[Q];exact Y);have f0:=A.on0 U (by rw[Q];exact Y);rw[Q]at f1 f0;refine Nw W {C' with sat:=S.sat.tail.tail,bd:=by omega} A.sk hj ⟨by omega,by omega⟩ f1 f0 (by omega) λm6 p6 s6 w6 v6 hm6 ZX l hf6 ha6 W4=>J.ret _ _ _ _ _ ((l.drop o).sat.get ((((o.Jd j hj hk).pre _).cons).app (pM s6))) λa6 T S6 nB oS=>?_
    have C7:=l.drop o;have Tm:=l.bd;replace F:=W.f p6;replace hB:=W.hB p6;refine aq F hB a nB S6 15 [0,0,2,2] [1] [10] [(7,i6 (IntKind.wrap .i64 (n+1))),(6,i6 (if(kk.V.ly j).d<IntKind.wrap .i64 (aH (kk.V.ly j) n*(kk.V.ly j).c)then(kk.V.ly j).d else IntKind.wrap .i64 (aH (kk.V.ly j) n*(kk.V.ly j).c))),(35,.bool false),(34,.iface 168 (ptr q)),(0,ptr (kk.lb j)),(1,ptr (kk.T t))] (λM=>M) 0 79 [false,false,false] [8,10] λa7 w7 S7 lW oA oT tu=>?_
    have tZ:IntKind.wrap .i64 (n+1)=n+1:=aA (by omega) (by omega);have Qf:0<=aH (kk.V.ly j) n*(kk.V.ly j).c/\aH (kk.V.ly j) n*(kk.V.ly j).c<=10000*9:=⟨rI (by omega) (by omega),xy (by omega) (by omega) (by omega) (by omega)⟩;have DE:IntKind.wrap .i64 (aH (kk.V.ly j) n*(kk.V.ly j).c)=aH (kk.V.ly j) n*(kk.V.ly j).c:=aA (by omega) (by omega);rw[tZ,DE,Ge,<-vO hV.2.1.1 hV.2.2.1.1 hV.2.2.2.1 qV.1]at S7;rw[show pc prog 156 79 [false,false,false] [8,10]=pc prog 156 16 [] [8] by kernel_rfl];have S8:=S7.dD [(7,i6 (n+1)),(6,i6 (aH (kk.V.ly j) (n+1))),(0,ptr (kk.lb j)),(1,ptr (kk.T t))] (by kernel_rfl);refine ihm m6 (by omega) (n+1) p6 s6 w7 v6 a7 T {C7 with sat:=S7.sat.tail,bd:=by omega} hf6 ZX ?_ ⟨by omega,by omega⟩ (λi x=>?_) (λi x=>by rw[W4];exact u i x) lW oA ⟨S8.env,S8.sat.tail,S8.sz⟩ λm' k d w' N X r b h1=>K m' k d w' N X r b (by omega)
    .rw[ha6];simp[LS.lD,upd]
    .rw[ha6]
     have O:i≠j:=by omega
     simp only[LS.lD,upd,if_true,O,if_false];exact D i x
 .obtain⟨a2,t2,rfl,I,Qv⟩:=OI.Qx
  show E.Ψ k (G ((bb.at a2 t2).raise (jy (.iface 166 (i6 b.n)))) (c::cs)) w'
  rw[raise_at hn.m];refine F.ow I (by rw[P];exact func156) ?_;exact K m1 k d w' N X (.inr (.iface 166 (i6 b.n))) b (by omega) (by omega) C' (A.out (.inl (by omega))) (.inr (.inr ⟨hb,rfl⟩)) D u
theorem Jh(W:l7 E kk Lf t)(hj:j<kk.V.nl)(hk:(kk.V.ly j).k=1)(Z:eM E kk Lf t (j+1)):eM E kk Lf t j:=by
 intro m p s w v R c cs C O J K;rw[show fZ kk.V j=156 by unfold fZ;rw[af (by omega),ah hk]];have F:=W.f p;have hB:=W.hB p;have Q:=C.bd;have S:=C.sat.get (((C.fJ.Jd j hj hk).pre _).cons.app (pM s));obtain⟨A,rfl,g⟩:=DW hj hk O;refine dg f156 func156 _ rfl 80 (by kernel_rfl) S λbb a0 B1 I o P k Y G=>?_
 refine aq F hB o k Y 16 [0,0,1,1,0,0,3,1] [] [8] [(7,i6 1),(6,i6 (if(kk.V.ly j).d<(kk.V.ly j).b then(kk.V.ly j).d else(kk.V.ly j).b)),(0,ptr (kk.lb j)),(1,ptr (kk.T t))] (λM=>M) 0 16 [] [8] λU q a h d H T=>?_
 rw[Ge,<-yd]at a;have ha:=(W.V.rt j hj hk).1;refine Jg W hj hk Z C.fJ I (λi=>(s.l.tk t).a i) (λi=>(s.l.tk t).q i) A 1 p {s with l:=s.l.lD t j 1} q v U B1 {C.lD j 1 with sat:=a.sat.tail,bd:=by omega} g (by omega) ?_ ⟨by omega,by omega⟩ (λi N=>?_) (λi N=>by simp[LS.lD,upd]) h d ⟨a.env,a.sat.tail,a.sz⟩ λD z x w' u X r b h1=>K D z x w' u X r b (by omega)
 .simp[LS.lD,upd]
 .have f:i≠j:=by omega
  simp[LS.lD,upd,f]
end Go.Proofs.YtobagnjnbmgidaaGreatDoor
