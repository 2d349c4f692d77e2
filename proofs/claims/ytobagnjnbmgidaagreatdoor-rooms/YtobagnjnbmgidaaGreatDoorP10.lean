import Derived.Test.YtobagnjnbmgidaaGreatDoorP1
set_option linter.all false
set_option maxHeartbeats 0
set_option maxRecDepth 100000
namespace Go.Proofs.YtobagnjnbmgidaaGreatDoor
open Go.Conc Go.RowKit Tryz
variable{b:Bk}{V:Ev0}{n:Int}{L:LS}{y:ju}{j m:Nat}{C R:aW}{w:aj}{c J:aC}{e v:ay}{o:cO}
variable{H:Bool}{B t:Nat}{D:dh}{I:gi}{N:Type}{a:PK}{f:LS}{E:TE N}
theorem P7(F:aB prog H (DX D) I)(n:HB B D){c:aC}(b:c.kind=.normal)(e:c.fn=164){J:aC}{o:cO}{C:aW}{a:Int}:∀(ch:List iN)(x:iN)(q:Nat)(p:ay),Has C (oR q 0 [i6 x.k,i6 x.l,i6 x.n,p] false)->Yu C p ch->
 ∀r w m,r.defers=[]->B<=m->w.heap.size=m->St D m 54 [(0,.iface 168 (ptr q)),(1,.iface 171 (i6 a)),(2,.bool true)] C 0 r w->(∀g,Sat D g C->w.heap.size<=g.heap.size->I (G (J.finish (.bool ((x::ch).any λy=>y.k==a))) o) g)->I (G (c.at r (pc prog 164 6 [] [])) (J::o)) w
 |ch,x,q,p,v,j,r,w,m,d,t,c,l,K=>by
  replace l:=l.get v;by_cases v:x.k=a
  .have c:(x.k==a)=true:=by simpa using v
   rw[Ao,c,ue]at K;refine oH F n b e d l 54 [0,0,0,1] [3,3,3,1,3,3,3,2] [] 6 (.bool true) (λM=>M) 0 44 6 [] [(a==x.k,true)] [] [] λf k h i=>K f k.sat.tail (by omega)
  .have c:(x.k==a)=false:=by simpa using v
   rw[Ao,c,uh]at K;match ch,j with
   |[],j=>
    have u:p=.nilIface:=j;subst u;refine oH F n b e d l 96 [0,0,0,1,0,0,3,1] [3,3,3,1,3,3,3,0,3,3] [] 6 (.bool false) (λM=>M) 0 73 28 [] [(a==x.k,false)] [] [] λf k h i=>K f k.sat.tail (by omega)
   |y::ch,j=>
    obtain⟨s,E,rfl,A,z⟩:=j;refine aX F n b d l 96 [0,0,0,1,0,0,3,1] [3,3,3,1,3,3,3,0,3,1] [] [(0,.iface 168 (ptr s)),(29,.bool (a==x.k)),(28,.iface 171 (i6 a)),(27,.iface 168 (ptr q)),(18,.bool false),(17,.iface 171 (i6 a)),(16,.iface 168 (ptr q)),(1,.iface 171 (i6 a)),(2,.bool true)] (λM=>M) 0 73 20 [] [(a==x.k,false)] [] [] λj f k c h i d=>?_;have d:=k.dB [(0,.iface 168 (ptr s)),(1,.iface 171 (i6 a)),(2,.bool true)] (by kernel_rfl);rw[show pc prog 164 73 (Bo 20) []=pc prog 164 6 [] [] by kernel_rfl];exact P7 F n b e ch y s E A z j f m c t (by omega) ⟨d.env,d.sat.tail,d.sz⟩ λg a b=>K g a (by omega)
theorem IM(F:aB prog H (DX D) I)(f:HB B D){ch:List iN}{a:Int}(d:Yu C e ch)(c:ch≠[])(g:Sat D w C)(b:B<=w.heap.size)(K:∀b,Sat D b C->w.heap.size<=b.heap.size->I (G (J.finish (.bool (ch.any λy=>y.k==a))) o) b):
 I (G (Frame.enter prog 163 #[e,.iface 171 (i6 a)] .normal) (J::o)) w:=by
 match ch,d with
 |[],_=>exact absurd rfl c
 |x::ch,d=>
  obtain⟨q,m,rfl,l,k⟩:=d;refine cJ func163 g 22 λb b b b c h b e d=>aq F f c b e 28 [] [1,1,1] [] [(20,.bool true),(19,.iface 171 (i6 a)),(18,.iface 168 (ptr q))] (λM=>M) 0 28 2 [] λb b e b d d d=>bu F c b e 21 164 #[.iface 168 (ptr q),.iface 171 (i6 a),.bool true] λb d=>cJ func164 e.sat 54 λb b r b b e g j i=>aq F f b g j 6 [] [] [] [(0,.iface 168 (ptr q)),(1,.iface 171 (i6 a)),(2,.bool true)] (λM=>M) 0 6 1 [] λn i p g j j j=>P7 F f b e ch x q m l k n i r g (by omega) (by omega) p λb e b=>d _ _ _ e λb b e b d=>bB F f c h b e 2 [] [] [] 4 (.bool (List.any (x::ch) λy=>y.k==a)) (λM=>M) 0 31 2 [] λa c b b=>K a c.sat (by omega)
theorem zT(F:aB prog H (DX D) I)(d:HB B D)(k:Yu C e b.ch)(c:b.ch≠[])(u:Sat D w C)(m:B<=w.heap.size)(K:∀m,Sat D m C->w.heap.size<=m.heap.size->I (G (J.finish (.bool (cE b 2||cE b 5))) o) m):
 I (G (Frame.enter prog 158 #[e] .normal) (J::o)) w:=by
 obtain⟨q,t⟩:∃q,e=.iface 168 (ptr q):=by
  cases g:b.ch with
  |nil=>exact absurd g c
  |cons y ch=>rw[g]at k;obtain⟨q,_,h,_⟩:=k;exact⟨q,h⟩
 subst t;refine cJ func158 u 11 λe e e e a i e t m=>aq F d a e t 8 [] [] [] [(4,.iface 171 (i6 2)),(3,.iface 168 (ptr q)),(0,.iface 168 (ptr q))] (λM=>M) 0 8 1 [] λe e m e t t t=>bu F a e m 5 163 #[.iface 168 (ptr q),.iface 171 (i6 2)] λe e=>IM F d k c m.sat (by omega) λm u t=>e _ _ _ u λt u j f e=>?_;change St D u 11 ((5,.bool (cE b 2))::_) C 0 t m at j;cases h:cE b 2 with
 |true=>
  rw[h]at j K;refine bB F d a i f j 7 [] [3,3,3] [] 2 (.bool true) (λM=>M) 0 16 1 [] λr l n p=>K r l.sat (by omega)
 |false=>
  rw[h]at j K;refine aq F d a f j 3 [] [1,1] [] [(8,.iface 171 (i6 5)),(6,.bool false),(7,.iface 168 (ptr q))] (λM=>M) 0 12 1 [] λe r l e n p f=>bu F a e l 9 163 #[.iface 168 (ptr q),.iface 171 (i6 5)] λe e=>IM F d k c l.sat (by omega) λf h c=>e _ _ _ h λh l s c e=>?_;change St D l 11 ((9,.bool (cE b 5))::_) C 0 h f at s;rw[uh]at K;refine bB F d a i c s 3 [] [] [] 2 (.bool (cE b 5)) (λM=>M) 0 16 1 [] λa c b b=>K a c.sat (by omega)
theorem CU(a:j<V.nl)(c:(V.ly j).k=1)(h:Fin V f m (some (t,j,none)) L):∃a,m=a+1/\Fin V f a (some (t,j+1,none)) (L.Yj t j 1):=by
 cases m with
 |zero=>exact h.elim
 |succ m=>
  obtain⟨a,a,a,b⟩:=h;have e:(j=V.nl)=False:=by simp;omega
  simp only[LS.step,e,if_false,c,if_true]at b;exact⟨m,rfl,b⟩
structure Sx(V:Ev0)(f:LS)(m0 t j:Nat)(b:Bk)(L:LS):Prop where
 sk:qm V t L
 bk:G5 b
 an:1<=(L.tk t).a j/\(L.tk t).a j<=(V.ly j).a
 out:(b.k≠2\/cE b 2=true\/cE b 5=true)->Fin V f m0 (some (t,j,some b)) L
 up:¬(b.k≠2\/cE b 2=true\/cE b 5=true)->(L.tk t).a j=(V.ly j).a->Fin V f m0 (some (t,j,some ⟨2,0,⟨7,j,0⟩::b.ch⟩)) (L.say t j 4 0)
 on:¬(b.k≠2\/cE b 2=true\/cE b 5=true)->(L.tk t).a j≠(V.ly j).a->0<aI (V.ly j) ((L.tk t).a j)->Fin V f m0 none (((L.say t j 3 (aI (V.ly j) ((L.tk t).a j))).Yj t j ((L.tk t).a j+1)).wait t j (aI (V.ly j) ((L.tk t).a j)))
 ZN:¬(b.k≠2\/cE b 2=true\/cE b 5=true)->(L.tk t).a j≠(V.ly j).a->¬0<aI (V.ly j) ((L.tk t).a j)->Fin V f m0 (some (t,j+1,none)) ((L.say t j 3 (aI (V.ly j) ((L.tk t).a j))).Yj t j ((L.tk t).a j+1))
theorem CX(d:(V.ly j).k=1)(h:Fin V f m (some (t,j+1,some b)) L):∃c,m=c+1/\Sx V f c t j b L:=by
 cases m with
 |zero=>exact h.elim
 |succ m=>
  obtain⟨g,c,c,a⟩:=h;have e:(j+1=0)=False:=by simp
  have i:=(c b rfl).2 (by omega);rw[eM]at i;refine⟨m,rfl,g,(c b rfl).1,i d,λb=>?_,λb c=>?_,λb c g=>?_,λb c g=>?_⟩
  .simp only[LS.step,e,if_false,eM,d,if_true,b]at a;exact a
  .simp only[LS.step,e,if_false,eM,d,if_true,b,c]at a;exact a
  .simp only[LS.step,e,if_false,eM,d,if_true,b,c,gt_iff_lt,g]at a;exact a
  .simp only[LS.step,e,if_false,eM,d,if_true,b,c,gt_iff_lt,g]at a;exact a
theorem lI{c d:Int}(e:1<=c)(b:0<=d):∀(m:Nat)(p:Int),0<=p->min (dN c d (m+1) p) d=min (min (dN c d m p) d*c) d/\0<=dN c d m p
 |0,p,a=>by
  refine⟨?_,a⟩;show min (if p<=d then p*c else p) d=min (min p d*c) d;by_cases h:p<=d
  .grind
  .rw[af h,Au (by omega)];have f:d<=d*c:=by have:=WB e b;omega
   omega
 |m+1,p,a=>by
  have i:dN c d (m+2) p=if p<=d then dN c d (m+1) (p*c)else p:=rfl;have g:dN c d (m+1) p=if p<=d then dN c d m (p*c)else p:=rfl;rw[i,g];by_cases h:p<=d
  .rw[ah h,ah h];exact lI e b m (p*c) (YE a (by omega))
  .rw[af h,af h];refine⟨?_,a⟩;rw[Au (by omega)];have f:d<=d*c:=by have:=WB e b;omega
   omega
theorem jx(y:ju)(n:Int):aI y n=min (dN y.c y.d (n-1).toNat y.b) y.d:=by
 unfold aI;grind
theorem xO(y:ju):aI y 1=min y.b y.d:=by rw[jx];rfl
theorem vH(c:0<=y.b)(b:1<=y.c)(a:0<=y.d)(d:1<=n):aI y (n+1)=min (aI y n*y.c) y.d:=by
 rw[jx,jx,show(n+1-1).toNat=(n-1).toNat+1 by omega];exact(lI b a _ _ c).1
theorem zE(c:0<=y.b)(b:1<=y.c)(a:0<=y.d)(n:Int):0<=aI y n/\aI y n<=y.d:=by
 rw[jx];have:=(lI b a (n-1).toNat y.b c).2;omega
theorem E5(L:LS)(t:Nat)(l d:Int):(L.wait t l d).tH L.wl ⟨0,0,[]⟩=L.wait t l d:=by
 unfold LS.tH LS.wait LS.put LS.cB;simp only;congr 1;funext i;unfold upd;simp_all
theorem PS.Uo{s:PS}(h:s.l=L):∃a:PS,s={a with l:=L}:=⟨s,by cases s;simp_all⟩
theorem Cn.Yj{p:N}{s:PS}{w:aj}{v:ay}{R:aW}(C:Cn E a t p s w v R)(j:Nat)(n:Int):Cn E a t p {s with l:=s.l.Yj t j n} w v R:=
 ⟨C.sat,⟨C.pv.jr,C.pv.en,C.pv.eo,C.pv.fb,C.pv.rm,C.pv.cx⟩,⟨C.qi.lt,C.qi.all,C.qi.pN,C.qi.ws,C.qi.cv,C.qi.wt⟩,C.fl,C.eH,C.bd,C.gu.trans ⟨rfl,rfl,rfl,rfl,rfl,rfl,rfl,rfl,rfl,λi b=>by show upd _ _ _ i=_;simp[upd,b],λ_ _=>rfl,λ_ _=>⟨rfl,rfl⟩⟩,C.hk,C.ln⟩
theorem Mo(W:jF E a f t){p:N}{s:PS}(C:Cn E a t p s w v R)(h:qm a.V t s.l)(X:j<a.V.nl)(V:(a.V.ly j).k=1){b:Int}(O:0<=b/\b<=10000)(O:0<b->Fin a.V f m none (((s.l.say t j 3 b).Yj t j n).wait t j b))(Q:¬0<b->Fin a.V f m (some (t,j+1,none)) ((s.l.say t j 3 b).Yj t j n))(H:m<=E.pS p)(K:∀y r q O U,y<=m->y<=E.pS r->Cn E a t r q O U R->Fin a.V f y (some (t,j+1,none)) q.l->(q.l.tk t).a=(((s.l.say t j 3 b).Yj t j n).tk t).a->(q.l.tk t).q=(s.l.tk t).q->E.Ψ r (G (c.finish (.bool true)) o) O):
 E.Ψ p (G (Frame.enter prog 157 #[ptr (a.lb j),ptr (a.T t),i6 b] .normal) (c::o)) w:=by
 have F:=W.f p;have A:=W.hB p;have c:=C.bd;have c:=C.sat;refine cJ func157 c 24 λc c c c g L c O G=>aq F A g c O 11 [] [] [] [(11,i6 b),(10,ptr (a.T t)),(9,ptr (a.lb j)),(1,ptr (a.T t)),(2,i6 b)] (λM=>M) 0 11 1 [] λc c G c D O O=>bu F g c G 12 149 #[ptr (a.lb j),ptr (a.T t),i6 3,i6 b] λc c=>iU W {C with sat:=G.sat,bd:=by omega} h.el h.tc (C.eH.lay j X) λd Z l G C=>c _ _ _ l.sat λc c S B c=>?_;have c:=l.bd;obtain⟨d,rfl⟩:=PS.Uo G;have C3:=l.Yj j n;by_cases Y:b=0
 .subst Y;refine bB F A g L B S 35 [7,0,2,1] [1,3,3,3,3,3] [] 6 (.bool true) (λM=>M) 0 34 2 [] λG c C O=>K m p {d with l:=(s.l.say t j 3 0).Yj t j n} G v (az _) H {C3 with sat:=c.sat,bd:=by omega} (Q (by omega)) rfl (by simp[LS.Yj,LS.say,upd])
 .have v:0<b:=by omega
  refine aX F A g B S 29 [7,0,2,1] [1,0,1] [] [(19,i6 b),(17,.bool false),(18,ptr (a.T t))] (λM=>M) 0 28 2 [] [(b==0,false)] [] [] λv G c v C O B=>bu F g v c 20 162 #[ptr (a.T t),i6 b] λv C=>?_;have v:=h.now;refine pL (s:={d with l:=(s.l.say t j 3 b).Yj t j n}) (t:=t) (aS:=a.aS t) (ly:=j) F A (w:=G) c.sat (by have G:=(l.eH.nH t W.tn).pre (E.P p {d with l:=s.l.say t j 3 b});have v:d.k=a:=l.hk;simp_all) (by have v:d.k=a:=l.hk;show t<d.k.V.nc;rw[v];exact W.tn) C3.pv C3.qi C3.TJ (λk h G w O=>((C3.ln k (by have v:d.k=a:=l.hk;simp_all) (by have v:d.k=a:=l.hk;simp_all)).mem w O).1) (by omega) (Nat.lt_of_le_of_lt C3.qi.len h.al) (by show _<=s.l.now+b;omega) (by show s.l.now+b<_;omega) λi x Q S Y X c B U U U=>C _ _ _ X λC C X C U=>GM F g C 21 153 #[ptr x] (by kernel_rfl) (by kernel_rfl) (by decide) X λC J=>?_;have U:JV t {d with l:=(s.l.say t j 3 b).Yj t j n} (PS.O4 {d with l:=(s.l.say t j 3 b).Yj t j n} t j b i x Q S ⟨0,0,[]⟩) j b i x ⟨0,0,[]⟩:=⟨rfl,rfl,rfl,rfl,rfl⟩;refine W.wait p {d with l:=(s.l.say t j 3 b).Yj t j n} _ Y i x j b ⟨0,0,[]⟩ C _ R (ptr x) m C3.gu C3.hk (by omega) U ?_ ⟨c.jr,c.en,c.eo,c.fb,c.rm,c.cx⟩ ⟨B.lt,B.all,B.pN,B.ws,B.cv,λw O=>by obtain⟨u,V,c⟩:=B.wt w O;exact⟨u,V,(E4 ..).trans c⟩⟩ (λk h G=>?_) (λk h G v=>by have:(d.f k).g<Z.heap.size:=C3.row h G v;grind) C3.fl C3.eH (by omega) (by show Fin a.V f m none (LS.tH _ _ _);rw[E5];simp_all) H λr q c y z c P T f1 f2 f3 f4 f5 f6=>?_
  .refine(Sat.cB U rfl rfl rfl (A:=pM (PS.cB {d with l:=(s.l.say t j 3 b).Yj t j n} t j b i x Q S)++(dO (a.T t) (ptr x) false::R)) (B:=E.O p) ?_).perm (by rfl);have c:d.k.T t=a.T t:=by rw[show d.k=a from l.hk]
   show Sat _ _ (bR x [ptr (d.k.T t),i6 0]::_);rw[c,dU];exact X.sat.perm Cy
  .have:=(C3.ln k h G).cB (x:=⟨t,j,false,false,⟨0,0,[]⟩⟩) (by grind);have e:(PS.O4 {d with l:=(s.l.say t j 3 b).Yj t j n} t j b i x Q S ⟨0,0,[]⟩).l.wt=upd s.l.wt s.l.wl ⟨t,j,false,false,⟨0,0,[]⟩⟩:=by funext j;simp only[LS.tH,LS.wait,LS.cB,LS.put,LS.Yj,LS.say,upd];simp_all
   rw[e];exact this
  have D:z=1/\Fin a.V f y (some (t,j+1,none)) q.l:=by
   rcases f1.2 with ⟨_,z,_⟩|⟨k,b,b,b⟩
   .omega
   grind
  obtain⟨rfl,I⟩:=D;refine J.ret _ _ _ _ _ T.sat λb b d b c=>?_;have c:=T.bd;replace F:=W.f r;replace A:=W.hB r;refine bB F A g L b d 4 [] [1] [] 6 (.bool true) (λM=>M) 0 34 2 [] λb d c c=>K y r q b (ptr x) (by omega) P {T with sat:=d.sat,bd:=by omega} I f4 (by rw[f6];simp[LS.Yj,LS.say,upd])
theorem Cn.drop{p:N}{s:PS}{X:aW}(C:Cn E a t p s w v (X++R))(h:yF a R):Cn E a t p s w v R:=
 ⟨C.sat.sub (nN (.cons_cons _ (D7 (D8 X R) _)) _),C.pv,C.qi,bO.2 λr b=>bO.1 C.fl r (by
  simp_all),h,C.bd,C.gu,C.hk,C.ln⟩
theorem Fy(x y:Int):(if y<x then y else x)=min x y:=by omega
theorem Ii(W:jF E a f t)(hj:j<a.V.nl)(hk:(a.V.ly j).k=1)(IH:dV E a f t (j+1))(x:yF a R){bb:aC}(hn:O0 bb 156)(g gq:Nat->Int):
 ∀(m:Nat)(n:Int)(p:N)(s:PS)(w:aj)(v:ay)(a0:Act)(B1:Nat),Cn E a t p s w v R->Fin a.V f m (some (t,j+1,none)) s.l->m<=E.pS p->(s.l.tk t).a j=n->(1<=n/\n<=(a.V.ly j).a)->(∀i,i<j->(s.l.tk t).a i=g i)->(∀i,i<j->(s.l.tk t).q i=gq i)->a0.defers=[]->w.heap.size=B1->
   St (E.Ok p) B1 80 [(7,i6 n),(6,i6 (aI (a.V.ly j) n)),(0,ptr (a.lb j)),(1,ptr (a.T t))] (pM s++(dO (a.T t) v false::(R++E.P p s))) 0 a0 w->
   (∀Z u k S O X r b,Z<m->Z<=E.pS u->Cn E a t u k S O (X++R)->Fin a.V f Z (some (t,j,some b)) k.l->Ov X r b->(∀i,i<j->(k.l.tk t).a i=g i)->(∀i,i<j->(k.l.tk t).q i=gq i)->E.Ψ u (G (ends c r) o) S)->
   E.Ψ p (G (bb.at a0 (pc prog 156 16 [] [8])) (c::o)) w:=by
 intro m;induction m using Nat.strongRecOn with
 |_ m Vm=>
 intro n p s w v a0 B1 C hf Ts ha CH hg hgq tN w S0 K;have F:=W.f p;have L:=W.hB p;have w:=C.bd;have d:=hn.k;have P:=hn.f;obtain⟨ty,w,IZ⟩:=xT a (j+1);have l:=x.lay j hj;rw[w]at l;unfold dV at IH;generalize iq a.V (j+1)=gf at*;have hV:=W.V.rt j hj hk;replace S0:=S0.get ((l.pre _).cons.app (pM s));refine aq F L d tN S0 10 [0,0,0,1] [] [] [(27,ptr (a.T t)),(26,.iface ty (.pointer (some (Addr.mk (a.lb (j+1)) 0 none)))),(7,i6 n),(6,i6 (aI (a.V.ly j) n)),(0,ptr (a.lb j)),(1,ptr (a.T t))] (λM=>M) 0 26 1 [8] λw w1 S1 w zS Dx o9=>GM F d w 28 gf #[ptr (a.lb (j+1)),ptr (a.T t)] (by rcases IZ with ⟨rfl,rfl⟩|⟨rfl,rfl⟩|⟨rfl,rfl⟩|⟨rfl,rfl⟩|⟨rfl,rfl⟩|⟨rfl,rfl⟩<;>kernel_rfl) (by kernel_rfl) (by decide) S1 λJ V=>IH m p s w1 v R J (c::o) {C with sat:=S1.sat.tail,bd:=by omega} hf Ts λZ u k S O X r b m m Q m hr Jc DG=>?_;obtain⟨m1,rfl,A⟩:=CX hk m;have m:=Q.bd;replace F:=W.f u;replace L:=W.hB u;have OP:(k.l.tk t).a j=n:=(Jc j (by omega)).trans ha;have H:∀i,i<j->(k.l.tk t).a i=g i:=λi D=>(Jc i (by omega)).trans (hg i D);have B:∀i,i<j->(k.l.tk t).q i=gq i:=λi D=>(DG i (by omega)).trans (hgq i D);rcases hr with ⟨hb,rfl⟩|⟨hb,e,rfl,he⟩|⟨hb,rfl⟩
 .refine V.ret _ _ _ _ _ Q.sat λa2 B2 S2 I tM=>aq F L d I S2 24 [] [3,3,3] [] [(5,.nilIface),(4,i6 b.n)] (λM=>M) 0 51 3 [8] λa3 w3 S3 U YF yO mH=>cC F S3 d P U [] (.tuple #[i6 b.n,.nilIface]) ?_;exact K m1 u k w3 O X (.inl (.tuple #[i6 b.n,.nilIface])) b (by omega) (by omega) {Q with sat:=S3.sat,bd:=by omega} (A.out (.inl (by omega))) (.inl ⟨hb,rfl⟩) H B
 .have T:b.ch≠[]:=by
   rcases A.bk.2.2 with ⟨z,_⟩|⟨_,_,z⟩|⟨z,_⟩
   .omega
   .exact z
   .omega
  obtain⟨q,rfl⟩:∃q,e=.iface 168 (ptr q):=by
   cases mQ:b.ch with
   |nil=>grind
   |cons y ch=>rw[mQ]at he;obtain⟨q,_,h,_⟩:=he;exact⟨q,h⟩
  refine V.ret _ _ _ _ _ Q.sat λa2 B2 S2 I tM=>aq F L d I S2 13 [] [1] [] [(34,.iface 168 (ptr q)),(33,.bool false),(9,.iface 168 (ptr q)),(8,i6 0),(7,i6 n),(6,i6 (aI (a.V.ly j) n)),(0,ptr (a.lb j)),(1,ptr (a.T t))] (λM=>M) 0 40 1 [8] λa3 w3 S3 U YF yO mH=>bu F d U S3 35 158 #[.iface 168 (ptr q)] λe e=>?_;have g:Yu (pM k++(dO (a.T t) O false::((X++R)++E.P u k))) (.iface 168 (ptr q)) b.ch:=he.up λr hr=>(((hr.pre R).pre _).cons).app (pM k);refine zT F L g T S3.sat (by omega) λg h g=>e _ _ _ h λe e Y C e=>?_;by_cases h:cE b 2=true\/cE b 5=true
  .have e:(cE b 2||cE b 5)=true:=by grind
   rw[e]at Y;refine aq F L d C Y 10 [] [3] [] [(5,.iface 168 (ptr q)),(4,i6 0)] (λM=>M) 0 51 3 [8] λa5 w5 m g R U qO=>cC F m d P g [] (.tuple #[i6 0,.iface 168 (ptr q)]) ?_;exact K m1 u k w5 O X (.inl (.tuple #[i6 0,.iface 168 (ptr q)])) b (by omega) (by omega) {Q with sat:=m.sat,bd:=by omega} (A.out (.inr h)) (.inr (.inl ⟨hb,_,rfl,he⟩)) H B
  .have e:(cE b 2||cE b 5)=false:=by grind
   rw[e]at Y;have s:¬(b.k≠2\/cE b 2=true\/cE b 5=true):=λz=>z.elim (λy=>y hb) h;replace Y:=(Y.get ((((x.Ig j hj hk).app X).pre _).cons.app (pM k))).get (((((l.app X).pre _).cons).app (pM k)).cons);by_cases hna:n=(a.V.ly j).a
   .refine aX F L d C Y 21 [1,0,0,1] [1,2] [] [(48,ptr (a.T t)),(47,ptr (a.lb j)),(9,.iface 168 (ptr q)),(0,ptr (a.lb j))] (λM=>M) 0 62 6 [8] [(n==(a.V.ly j).a,true)] [] [] λa5 w5 m g R U qO=>bu F d g m 49 149 #[ptr (a.lb j),ptr (a.T t),i6 4,i6 0] λJC h=>iU W {Q with sat:=m.sat.tail.tail,bd:=by omega} A.sk.el A.sk.tc (l.app X) λy w6 e e6 p=>h _ _ _ (e.sat.get ((((l.app X).pre _).cons).app (pM y))) λa6 p S6 w YG=>?_;have VG:=e.bd;refine aq F L d w S6 27 [0,0,1,1] [] [] [(5,.iface 168 (ptr p)),(4,i6 0)] (λM=>bR (p) [i6 7,i6 j,i6 0,.iface 168 (ptr q)]::(M)) 1 76 6 [8] λa7 w7 S7 v z YQ DJ=>cC F S7 d P v [] (.tuple #[i6 0,.iface 168 (ptr p)]) ?_;have XC:=A.up s (OP.trans hna);rw[<-e6]at XC;exact K m1 u y w7 O (oR p 0 [i6 7,i6 j,i6 0,.iface 168 (ptr q)] false::X) _ _ (by omega) (by omega) ⟨(Sat.BC (A:=[oR p 0 [i6 7,i6 j,i6 0,.iface 168 (ptr q)] false]) S7.sat.fix).perm (gY (A:=pM y)),e.pv,e.qi,e.fl.cons rfl,e.eH.cons,by omega,e.gu,e.hk,e.ln⟩ XC (.inr (.inl ⟨rfl,_,rfl,p,.iface 168 (ptr q),rfl,⟨rfl,0,rfl⟩,he.up λr hr=>hr.cons⟩)) (λi D=>by rw[e6];exact H i D) (λi D=>by rw[e6];exact B i D)
   .refine aX F L d C Y 22 [1,0,0,1] [1,0] [] [(59,i6 (aI (a.V.ly j) n)),(58,ptr (a.T t)),(57,ptr (a.lb j)),(35,.bool false),(34,.iface 168 (ptr q)),(7,i6 n),(6,i6 (aI (a.V.ly j) n)),(0,ptr (a.lb j)),(1,ptr (a.T t))] (λM=>M) 0 63 4 [8] [(n==(a.V.ly j).a,false)] [] [] λa5 w5 m g R U qO=>GM F d g 60 157 #[ptr (a.lb j),ptr (a.T t),i6 (aI (a.V.ly j) n)] (by kernel_rfl) (by kernel_rfl) (by decide) m λJC h=>?_;have g:=zE hV.2.1.1 hV.2.2.1.1 hV.2.2.2.1 n;have f1:=A.on s (by omega);have f0:=A.ZN s (by omega);rw[OP]at f1 f0;refine Mo W {Q with sat:=m.sat.tail.tail,bd:=by omega} A.sk hj hk ⟨by omega,by omega⟩ f1 f0 (by omega) λm6 m y w6 U g C e R g s=>h.ret _ _ _ _ _ ((e.drop x).sat.get ((((x.Ig j hj hk).pre _).cons).app (pM y))) λa6 p S6 w YG=>?_;have h:=e.drop x;have VG:=e.bd;replace F:=W.f m;replace L:=W.hB m;refine aq F L d w S6 15 [0,0,2,2] [1] [10] [(7,i6 (IntKind.wrap .i64 (n+1))),(6,i6 (if(a.V.ly j).d<IntKind.wrap .i64 (aI (a.V.ly j) n*(a.V.ly j).c)then(a.V.ly j).d else IntKind.wrap .i64 (aI (a.V.ly j) n*(a.V.ly j).c))),(35,.bool false),(34,.iface 168 (ptr q)),(0,ptr (a.lb j)),(1,ptr (a.T t))] (λM=>M) 0 79 8 [8,10] λa7 w7 S7 v z YQ DJ=>?_;have e:IntKind.wrap .i64 (n+1)=n+1:=aA (by omega) (by omega);have d:0<=aI (a.V.ly j) n*(a.V.ly j).c/\aI (a.V.ly j) n*(a.V.ly j).c<=10000*9:=⟨YE (by omega) (by omega),YT (by omega) (by omega) (by omega) (by omega)⟩;have d:IntKind.wrap .i64 (aI (a.V.ly j) n*(a.V.ly j).c)=aI (a.V.ly j) n*(a.V.ly j).c:=aA (by omega) (by omega);rw[e,d,Fy,<-vH hV.2.1.1 hV.2.2.1.1 hV.2.2.2.1 CH.1]at S7;rw[show pc prog 156 79 (Bo 8) [8,10]=pc prog 156 16 [] [8] by kernel_rfl];have d:=S7.dB [(7,i6 (n+1)),(6,i6 (aI (a.V.ly j) (n+1))),(0,ptr (a.lb j)),(1,ptr (a.T t))] (by kernel_rfl);refine Vm m6 (by omega) (n+1) m y w7 U a7 p {h with sat:=S7.sat.tail,bd:=by omega} R C ?_ ⟨by omega,by omega⟩ (λi D=>?_) (λi D=>by rw[s];exact B i D) v z ⟨d.env,d.sat.tail,d.sz⟩ λZ u k S O X r b d=>K Z u k S O X r b (by omega)
    .rw[g];simp[LS.Yj,upd]
    .rw[g];have T:i≠j:=by omega
     simp only[LS.Yj,upd,if_true,T,if_false];exact H i D
 .obtain⟨a2,t2,rfl,I,d⟩:=V.NO;show E.Ψ u (G ((bb.at a2 t2).raise (je (.iface 166 (i6 b.n)))) (c::o)) S;rw[raise_at hn.m];refine F.lJ I (by rw[P];rfl) ?_;exact K m1 u k S O X (.inr (.iface 166 (i6 b.n))) b (by omega) (by omega) Q (A.out (.inl (by omega))) (.inr (.inr ⟨hb,rfl⟩)) H B
theorem Ij(W:jF E a f t)(g:j<a.V.nl)(e:(a.V.ly j).k=1)(x:dV E a f t (j+1)):dV E a f t j:=by
 intro m p s w v R c o C k c K;rw[show iq a.V j=156 by unfold iq;grind];have F:=W.f p;have u:=W.hB p;have c:=C.bd;have l:=C.sat.get (((C.eH.Ig j g e).pre _).cons.app (pM s));obtain⟨n,rfl,h⟩:=CU g e k;refine cJ func156 l 80 λc c w q k c c m l=>aq F u k c m 16 [0,0,1,1,0,0,3,1] [] [8] [(7,i6 1),(6,i6 (if(a.V.ly j).d<(a.V.ly j).b then(a.V.ly j).d else(a.V.ly j).b)),(0,ptr (a.lb j)),(1,ptr (a.T t))] (λM=>M) 0 16 1 [8] λu l d k c m m=>?_;rw[Fy,<-xO]at d;have m:=(W.V.rt j g e).1;refine Ii W g e x C.eH q (λi=>(s.l.tk t).a i) (λi=>(s.l.tk t).q i) n 1 p {s with l:=s.l.Yj t j 1} l v u w {C.Yj j 1 with sat:=d.sat.tail,bd:=by omega} h (by omega) ?_ ⟨by omega,by omega⟩ (λi e=>?_) (λi e=>by simp[LS.Yj,upd]) k c ⟨d.env,d.sat.tail,d.sz⟩ λk h g c e X r b l=>K k h g c e X r b (by omega)
 .simp[LS.Yj,upd]
 .have b:i≠j:=by omega
  simp[LS.Yj,upd,b]
end Go.Proofs.YtobagnjnbmgidaaGreatDoor
