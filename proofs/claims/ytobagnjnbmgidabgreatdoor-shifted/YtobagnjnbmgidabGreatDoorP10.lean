import Derived.Test.YtobagnjnbmgidabGreatDoorB1
set_option linter.all false
set_option maxHeartbeats 0
set_option maxRecDepth 100000
namespace Go.Proofs.YtobagnjnbmgidabGreatDoor
open Go.Conc Go.RowKit Tryz
variable{a:Act}{Z ca:Addr}{b:Bk}{V:Ev0}{n num U pr q si st:Int}{L L':LS}{y:ju}{T b5 bt c cap g j l lb m o Y ty:Nat}{C M R:aW}{w w':aj}{J cf:aC}{e wi:ay}{v:eX}{cs:cO}
variable{H:Bool}{B t:Nat}{Ok:dh}{Ψ:gi}{γ:Type}{D:PK}{I:LS->Prop}{P:aG}{E:TE γ}
def P7(F:aB prog H (DX Ok) Ψ)(m:HB B Ok){J:aC}(b:J.kind=.normal)(e:J.fn=163){cf:aC}{cs:cO}{C:aW}{a:Int}:∀(ch:List iN)(x:iN)(q:Nat)(n:ay),Has C (oR q 0 [i6 x.k,i6 x.l,i6 x.n,n] false)->Yu C n ch->
 ∀o w l,o.defers=[]->B<=l->w.heap.size=l->St Ok l 54 [(0,.iface 184 (ptr q)),(1,.iface 187 (i6 a)),(2,.bool true)] C 0 o w->(∀w',Sat Ok w' C->w.heap.size<=w'.heap.size->Ψ (G (cf.finish (.bool ((x::ch).any λy=>y.k==a))) cs) w')->Ψ (G (J.at o (pc prog 163 6 [] [])) (cf::cs)) w
 |ch,x,q,n,t,i,o,w,l,d,r,c,k,K=>by
  replace k:=k.get t;by_cases t:x.k=a
  .have c:(x.k==a)=true:=by simpa using t
   rw[Ao,c,ue]at K;refine ZI F m b e d k 54 [0,0,0,1] 114559 [] 6 (.bool true) 44 6 [] [] [(a==x.k,true)] [] [] λf j g h=>K f j.sat.tail ω
  .have c:(x.k==a)=false:=by simpa using t
   rw[Ao,c,uh]at K;match ch,i with
   |[],i=>
    have s:n=.nilIface:=i;subst s;refine ZI F m b e d k 96 [0,0,0,1,0,0,3,1] 2047871 [] 6 (.bool false) 73 28 [] [] [(a==x.k,false)] [] [] λf j g h=>K f j.sat.tail ω
   |y::ch,i=>
    obtain⟨p,z,rfl,v,u⟩:=i;refine TP F m b d k 96 [0,0,0,1,0,0,3,1] 1523583 [] [(0,.iface 184 (ptr p)),(29,.bool (a==x.k)),(28,.iface 187 (i6 a)),(27,.iface 184 (ptr q)),(18,.bool false),(17,.iface 187 (i6 a)),(16,.iface 184 (ptr q)),(1,.iface 187 (i6 a)),(2,.bool true)] 73 20 [] [] [(a==x.k,false)] [] [] λi f j c g h d=>?_;have d:=j.dB [(0,.iface 184 (ptr p)),(1,.iface 187 (i6 a)),(2,.bool true)] ρ;rw[show pc prog 163 73 (Bo 20) []=pc prog 163 6 [] [] by kernel_rfl];exact P7 F m b e ch y p z v u i f l c r ω ⟨d.env,d.sat.tail,d.sz⟩ λw' a b=>K w' a ω
def IM(F:aB prog H (DX Ok) Ψ)(f:HB B Ok){ch:List iN}{a:Int}(c:Yu C e ch)(b:ch≠[])(d:Sat Ok w C)(g:B<=w.heap.size)(K:∀w',Sat Ok w' C->w.heap.size<=w'.heap.size->Ψ (G (cf.finish (.bool (ch.any λy=>y.k==a))) cs) w'):
 Ψ (G (Frame.enter prog 162 #[e,.iface 187 (i6 a)] .normal) (cf::cs)) w:=by
 match ch,c with
 |[],_=>exact absurd rfl b
 |x::ch,c=>
  obtain⟨q,m,rfl,l,k⟩:=c;refine cJ func162 d 22 λJ b b b c h b e d=>Rb F f c b e 28 [] 85 [] [(20,.bool true),(19,.iface 187 (i6 a)),(18,.iface 184 (ptr q))] 28 2 [] λb b e b d d d=>ah F c b e 21 163 #[.iface 184 (ptr q),.iface 187 (i6 a),.bool true] λb d=>cJ func163 e.sat 54 λb b p b b e g j i=>Rb F f b g j 6 [] 1 [] [(0,.iface 184 (ptr q)),(1,.iface 187 (i6 a)),(2,.bool true)] 6 1 [] λn i o g j j j=>P7 F f b e ch x q m l k n i p g ω ω o λb e b=>d _ _ _ e λb b e b d=>UF F f c h b e 2 [] 1 [] 4 (.bool (List.any (x::ch) λy=>y.k==a)) 31 2 [] λa c b b=>K a c.sat ω
def zT(F:aB prog H (DX Ok) Ψ)(d:HB B Ok)(k:Yu C e b.ch)(c:b.ch≠[])(s:Sat Ok w C)(t:B<=w.heap.size)(K:∀w',Sat Ok w' C->w.heap.size<=w'.heap.size->Ψ (G (cf.finish (.bool (cE b 2||cE b 5))) cs) w'):
 Ψ (G (Frame.enter prog 157 #[e] .normal) (cf::cs)) w:=by
 obtain⟨q,r⟩:∃q,e=.iface 184 (ptr q):=by
  cases g:b.ch with
  |nil=>exact absurd g c
  |cons y ch=>rw[g]at k;let⟨q,_,h,_⟩:=k;exact⟨q,h⟩
 subst r;refine cJ func157 s 11 λJ e e e a i e s r=>Rb F d a e s 8 [] 1 [] [(4,.iface 187 (i6 2)),(3,.iface 184 (ptr q)),(0,.iface 184 (ptr q))] 8 1 [] λe e r e s s s=>ah F a e r 5 162 #[.iface 184 (ptr q),.iface 187 (i6 2)] λe e=>IM F d k c r.sat ω λr t s=>e _ _ _ t λs t j f e=>?_;change St Ok t 11 ((5,.bool (cE b 2))::_) C 0 s r at j;cases h:cE b 2 with
 |true=>
  rw[h]at j K;refine UF F d a i f j 7 [] 127 [] 2 (.bool true) 16 1 [] λo l m n=>K o l.sat ω
 |false=>
  rw[h]at j K;refine Rb F d a f j 3 [] 21 [] [(8,.iface 187 (i6 5)),(6,.bool false),(7,.iface 184 (ptr q))] 12 1 [] λe o l e m n f=>ah F a e l 9 162 #[.iface 184 (ptr q),.iface 187 (i6 5)] λe e=>IM F d k c l.sat ω λf h c=>e _ _ _ h λh l p c e=>?_;change St Ok l 11 ((9,.bool (cE b 5))::_) C 0 h f at p;rw[uh]at K;refine UF F d a i c p 3 [] 1 [] 2 (.bool (cE b 5)) 16 1 [] λa c b b=>K a c.sat ω
def CU(a:j<V.nl)(c:(V.ly j).k=1)(h:Fin V I m (some (t,j,none)) L):∃a,m=a+1/\Fin V I a (some (t,j+1,none)) (L.Yj t j 1):=by
 cases m with
 |zero=>exact h.elim
 |succ m=>
  let⟨_,_,_,a,b⟩:=h;have e:(j=V.nl)=False:=θ
  simp only[LS.step,e,if_false,c,if_true]at b;exact⟨m,rfl,b⟩
structure Sx(V:Ev0)(I:LS->Prop)(m0 t j:Nat)(b:Bk)(L:LS):Prop where
 sk:qm V t L
 bk:G5 b
 an:1<=(L.tk t).a j/\(L.tk t).a j<=(V.ly j).a
 out:(b.k≠2\/cE b 2=true\/cE b 5=true)->Fin V I m0 (some (t,j,some b)) L
 up:¬(b.k≠2\/cE b 2=true\/cE b 5=true)->(L.tk t).a j=(V.ly j).a->Fin V I m0 (some (t,j,some ⟨2,0,⟨7,j,0⟩::b.ch⟩)) (L.say t j 4 0)
 on:¬(b.k≠2\/cE b 2=true\/cE b 5=true)->(L.tk t).a j≠(V.ly j).a->(L.tk t).x=false->0<aI (V.ly j) ((L.tk t).a j)->Fin V I m0 none (((L.say t j 3 (aI (V.ly j) ((L.tk t).a j))).Yj t j ((L.tk t).a j+1)).wait t j (aI (V.ly j) ((L.tk t).a j)) true)
 ZN:¬(b.k≠2\/cE b 2=true\/cE b 5=true)->(L.tk t).a j≠(V.ly j).a->(L.tk t).x=false->¬0<aI (V.ly j) ((L.tk t).a j)->Fin V I m0 (some (t,j+1,none)) ((L.say t j 3 (aI (V.ly j) ((L.tk t).a j))).Yj t j ((L.tk t).a j+1))
 dr:¬(b.k≠2\/cE b 2=true\/cE b 5=true)->(L.tk t).a j≠(V.ly j).a->(L.tk t).x=true->Fin V I m0 (some (t,j,some (c9 5 j 0))) (((L.say t j 3 (aI (V.ly j) ((L.tk t).a j))).Yj t j ((L.tk t).a j+1)).say t j 16 0)
def CX(d:(V.ly j).k=1)(c:(L.tk t).p<=j)(h:Fin V I m (some (t,j+1,some b)) L):∃c,m=c+1/\Sx V I c t j b L:=by
 cases m with
 |zero=>exact h.elim
 |succ m=>
  let⟨f,_,g,c,a⟩:=h;have e:(j+1=(L.tk t).p)=False:=θ
  have i:=(c b rfl).2 ω;rw[eM]at i;refine⟨m,rfl,f,(c b rfl).1,i d,λb=>?_,λb c=>?_,λb c f g=>?_,λb c f g=>?_,λb c f=>?_⟩
  .simp only[LS.step,e,if_false,eM,d,if_true,b]at a;exact a
  .simp only[LS.step,e,if_false,eM,d,if_true,b,c]at a;exact a
  .simp only[LS.step,e,if_false,eM,d,if_true,b,c,gt_iff_lt,g,f,sP]at a;exact a
  .simp only[LS.step,e,if_false,eM,d,if_true,b,c,gt_iff_lt,g,f,sP]at a;exact a
  .simp only[LS.step,e,if_false,eM,d,if_true,b,c,f]at a;exact a
def JM{a:Nat}{b:Option Bk}{l:Int}(h:Fin V I m (some (t,j,b)) (L.say a l q n)):L.el<1000000:=by
 cases m with
 |zero=>exact h.elim
 |succ m=>have a:L.el+1<1000000:=h.1.el
          omega
def lI{c d:Int}(e:1<=c)(b:0<=d):∀(m:Nat)(p:Int),0<=p->min (dN c d (m+1) p) d=min (min (dN c d m p) d*c) d/\0<=dN c d m p
 |0,p,a=>by
  refine⟨?_,a⟩;show min (if p<=d then p*c else p) d=min (min p d*c) d;by_cases h:p<=d
  .grind
  .rw[af h,Au ω];have f:d<=d*c:=by have:=WB e b;omega
   omega
 |m+1,p,a=>by
  have i:dN c d (m+2) p=if p<=d then dN c d (m+1) (p*c)else p:=rfl;have g:dN c d (m+1) p=if p<=d then dN c d m (p*c)else p:=rfl;rw[i,g];by_cases h:p<=d
  .rw[sJ h,sJ h];exact lI e b m (p*c) (YE a ω)
  .rw[af h,af h];refine⟨?_,a⟩;rw[Au ω];have f:d<=d*c:=by have:=WB e b;omega
   omega
def jx(y:ju)(n:Int):aI y n=min (dN y.c y.d (n-1).toNat y.b) y.d:=by
 unfold aI;grind
def xO(y:ju):aI y 1=min y.b y.d:=by rw[jx];rfl
def vH(c:0<=y.b)(b:1<=y.c)(a:0<=y.d)(d:1<=n):aI y (n+1)=min (aI y n*y.c) y.d:=by
 rw[jx,jx,show(n+1-1).toNat=(n-1).toNat+1 by omega];exact(lI b a _ _ c).1
def zE(c:0<=y.b)(b:1<=y.c)(a:0<=y.d)(n:Int):0<=aI y n/\aI y n<=y.d:=by
 rw[jx];have:=(lI b a (n-1).toNat y.b c).2;omega
def PS.Uo{s:PS}(h:s.l=L):∃a:PS,s={a with l:=L}:=⟨s,by cases s;simp_all⟩
def Cn.Yj{p:γ}{s:PS}{w:aj}{R:aW}(C:Cn E D t p s w R)(j:Nat)(n:Int):Cn E D t p {s with l:=s.l.Yj t j n} w R:=by
 have a:∀i,((s.l.Yj t j n).tk i).c=(s.l.tk i).c/\((s.l.Yj t j n).tk i).f=(s.l.tk i).f/\((s.l.Yj t j n).tk i).p=(s.l.tk i).p/\((s.l.Yj t j n).tk i).o=(s.l.tk i).o/\((s.l.Yj t j n).tk i).x=(s.l.tk i).x/\((s.l.Yj t j n).tk i).e=(s.l.tk i).e:=λi=>by
  by_cases e:i=t
  .subst e;simp[LS.Yj,upd]
  .simp[LS.Yj,upd,e]
 have d:j7 {s with l:=s.l.Yj t j n}=j7 s:=funext λi=>by
  unfold j7;simp_all
 have b:gS {s with l:=s.l.Yj t j n}=gS s:=by
  show gA s++(wS s++(_::((List.range s.l.tl).flatMap (j7 {s with l:=s.l.Yj t j n})++s.cx)))=_;rw[d];rfl
 refine⟨by show Sat _ _ (pM s++(E.me D t::(R++(gS {s with l:=s.l.Yj t j n}++E.O p))));rw[b];exact C.sat,{C.pv with},{C.qi with},C.fl,C.eH,C.bd,C.cp.gq ⟨rfl,rfl,rfl,rfl,rfl,rfl,rfl,rfl,rfl,λi b=>⟨(s.l.tk i).x,by show upd _ _ _ i=_;simp[upd,b]⟩,⟨(a t).1,(a t).2.1,(a t).2.2.1⟩,λ_ _=>⟨rfl,rfl⟩,⟨rfl,rfl,rfl⟩,λ_=>rfl⟩,C.ln,?_⟩;exact⟨C.ti.nc,C.ti.wt,C.ti.cm,λi b=>by rw[(a i).1,(a i).2.2.1];exact C.ti.cl i b,λi e d=>by rw[(a i).2.1,(a i).2.2.1];exact C.ti.wk i e d,λi b=>⟨(C.ti.ch i b).1,λc f=>by rw[(a c).2.1];exact(C.ti.ch i b).2 c f⟩,λi b=>by rw[(a i).2.2.2.1];exact C.ti.can i b,C.ti.zz,λc e d j w f b=>C.ti.al c e d j w (by rw[<-(a c).2.1];exact f) b⟩
def Cn.N3{p:γ}{s:PS}(b:t<s.l.tl)(h:Sat (E.Ok p) w (pM s++(j7 s t++(E.me D t::(R++(tX s t++E.O p)))))):Sat (E.Ok p) w (pM s++(E.me D t::(R++E.P p s))):=by
 refine h.perm (eN _ ?_);have a:=((jw s b).append_right (E.O p)).append_left (E.me D t::R);rw[dU]at a;refine List.Perm.trans ?_ a.symm;exact fA (j7 s t) (E.me D t::R) (tX s t++E.O p)
def vq{s:PS}(h:s.T t=T):∃d b ev g o a bv A c ch,j7 s t=[dO T d b (s.l.tk t).x ev,fR ⟨g,o,none⟩ 1 bv a true,wF T A t c ch]:=⟨_,_,_,_,_,_,_,_,_,_,by unfold j7;rw[h]⟩
def Pd(W:jF E D I t){p:γ}{s:PS}(C:Cn E D t p s w R)(hk:qm D.V t s.l)(O:j<D.V.nl)(h1:(D.V.ly j).k=1){a:Int}(hp:0<=a/\a<=10000)(y:(s.l.tk t).x=false->0<a->Fin D.V I m none (((s.l.say t j 3 a).Yj t j n).wait t j a true))(hf0:(s.l.tk t).x=false->¬0<a->Fin D.V I m (some (t,j+1,none)) ((s.l.say t j 3 a).Yj t j n))(r:(s.l.tk t).x=true->Fin D.V I m (some (t,j,some (c9 5 j 0))) (((s.l.say t j 3 a).Yj t j n).say t j 16 0))(N:m<=E.pS p){c:aC}(K:∀q l d w',q<=m->q<=E.pS l->Cn E D t l d w' R->Fin D.V I q (some (t,j+1,none)) d.l->(d.l.tk t).a=(((s.l.say t j 3 a).Yj t j n).tk t).a->(d.l.tk t).q=(s.l.tk t).q->E.Ψ l (G (c.finish (.bool true)) cs) w')(K':∀q l d w',q<=m->q<=E.pS l->Cn E D t l d w' R->d.l.el<1000000->Fin D.V I q (some (t,j,some (c9 5 j 0))) (d.l.say t j 16 0)->(d.l.tk t).a=(((s.l.say t j 3 a).Yj t j n).tk t).a->(d.l.tk t).q=(s.l.tk t).q->E.Ψ l (G (c.finish (.bool false)) cs) w'):
 E.Ψ p (G (Frame.enter prog 156 #[ptr (D.lb j),ptr E.T,i6 a] .normal) (c::cs)) w:=by
 have F:=W.f p;have Q:=W.hB p;have c:=C.bd;have c:=C.sat;refine cJ func156 c 24 λJ c c c b B c G w=>Rb F Q b c G 11 [] 1 [] [(11,i6 a),(10,ptr E.T),(9,ptr (D.lb j)),(1,ptr E.T),(2,i6 a)] 11 1 [] λc c w c U G G=>ah F b c w 12 148 #[ptr (D.lb j),ptr E.T,i6 3,i6 a] λc c=>iU W {C with sat:=w.sat,bd:=by omega} hk.el (C.eH.lay j O) λs2 w2 C2 C w=>c _ _ _ C2.sat λa2 B2 L P c=>?_;have c:=C2.bd;obtain⟨s2,rfl⟩:=PS.Uo C;have C3:=C2.Yj j n;obtain⟨f,Y⟩:∃f:PS,f={s2 with l:=(s.l.say t j 3 a).Yj t j n}:=⟨_,rfl⟩;have e:f.l=(s.l.say t j 3 a).Yj t j n:=by rw[Y]
 change Cn E D t p {s2 with l:=(s.l.say t j 3 a).Yj t j n} w2 R at C3;rw[<-Y]at C3;have c:(f.l.tk t).x=(s.l.tk t).x:=by rw[e];simp[LS.Yj,LS.say,upd]
 let⟨cv,Y,ev,g,o,G,bv,A,C,ch,w⟩:=vq C3.cp.hT.1;have hm:=C3.mine;rw[w,c]at hm;have back:∀w',Sat (E.Ok p) w' (pM f++([dO E.T cv Y (s.l.tk t).x ev,fR ⟨g,o,none⟩ 1 bv G true,wF E.T A t C ch]++(E.me D t::(R++(tX f t++E.O p)))))->w2.heap.size<=w'.heap.size->Cn E D t p f w' R:=λw' h c=>{C3 with sat:=Cn.N3 C3.tn ξ,bd:=by omega}
 have H:(f.l.tk t).a=(((s.l.say t j 3 a).Yj t j n).tk t).a:=by rw[e]
 have u:(f.l.tk t).q=(s.l.tk t).q:=by rw[e];simp[LS.Yj,LS.say,upd]
 replace L:St (E.Ok p) B2 24 _ _ 0 a2 w2:=⟨L.env,hm,L.sz⟩
 by_cases X:(s.l.tk t).x=true
 .rw[X]at L back;have r:=r X;rw[<-e]at r;refine UF F Q b B P L 25 [7,0,2,1] 7 [] 6 (.bool false) 24 3 [] λM S T V=>K' m p f M (az _) N (back M S.sat ω) (JM r) r H u
 .replace X:(s.l.tk t).x=false:=ξ
  rw[X]at L back;by_cases h0:a=0
  .subst h0;refine UF F Q b B P L 35 [7,0,2,1] 8189 [] 6 (.bool true) 34 2 [] λM S T V=>K m p f M (az _) N (back M S.sat ω) ξ H u
  .have g:0<a:=ω
   refine TP F Q b P L 29 [7,0,2,1] 81 [] [(19,i6 a),(17,.bool false),(18,ptr E.T)] 28 2 [] [] [(a==0,false)] [] [] λc M S h T V c=>?_;have c:=back M S.sat ω;have y:=y X g;rw[<-e]at y;refine ah F b h S 20 161 #[ptr E.T,i6 a] λg g=>lG W c (by rw[e];exact hk.al) (by rw[e];exact hk.now) O ⟨hp.1,ω⟩ λi x w A o n h E C e e e=>g _ _ _ n λe e n e g=>GM F b e 21 152 #[ptr x] ρ ρ δ n λg e=>?_;have s:JL t f (f.cB t j a i x w A true) j a i x ⟨0,0,[]⟩ true:=⟨rfl,rfl,rfl,rfl,(E5 ..).symm,⟨rfl,rfl,rfl⟩,λj O=>af (iS O)⟩;refine W.wait p f _ _ o i x j a ⟨0,0,[]⟩ true g _ R m c.cp c.ti ω (λ_=>O) s (.inl rfl) c.cp.JN n.sat h E C (by have:=c.lnw (ly:=j) (d:=a) (b:=⟨0,0,[]⟩) (cb:=true) (λ_=>ω);rw[E5]at this;exact this) (λk hk f a=>by have:=c.row hk f a;grind) (λj O a=>by have:=rG c.sat c.Ej O a;grind) c.fl c.eH ω y N λl d a q z a Z C' f1 f2 f3 f4 f5 f6=>e.ret _ _ _ _ _ C'.sat λa a S6 DE a=>?_;have a:=C'.bd;replace F:=W.f l;replace Q:=W.hB l;have U:(z=1/\Fin D.V I q (some (t,j+1,none)) d.l)\/(z=3/\Fin D.V I q (some (t,j,some (c9 5 j 0))) (d.l.say t j 16 0)):=by
    rcases f1.2 with ⟨_,z,_⟩|⟨k,a,QJ,Nj⟩
    .omega
    .rw[f2]at QJ;have:k=j:=ω
     subst this;rcases Nj with z|z|z|z|z|z
     .simp_all
     .simp_all
     all_goals omega
   rcases U with ⟨rfl,v⟩|⟨rfl,v⟩
   .refine UF F Q b B DE S6 4 [] 5 [] 6 (.bool true) 34 2 [] λa f c e=>K q l d a ω Z {C' with sat:=f.sat,bd:=by omega} v (f4.trans H) (f6.trans u)
   .refine UF F Q b B DE S6 4 [] 5 [] 6 (.bool false) 34 2 [] λa f c e=>K' q l d a ω Z {C' with sat:=f.sat,bd:=by omega} (JM v) v (f4.trans H) (f6.trans u)
def Cn.drop{p:γ}{s:PS}{X:aW}(C:Cn E D t p s w (X++R))(h:yF D R):Cn E D t p s w R:=
 ⟨C.sat.sub (nN (.cons_cons _ (D7 (D8 X R) _)) _),C.pv,C.qi,bO.2 λr a=>bO.1 C.fl r (by
  simp_all),h,C.bd,C.cp,C.ln,C.ti⟩
def wv(W:jF E D I t){p:γ}{s:PS}(C:Cn E D t p s w R)(d:j<D.V.nl)(b:s.l.el<1000000){c:aC}(K:∀a w' q,Cn E D t p a w' (oR q 0 [i6 5,i6 j,i6 0,.nilIface] false::R)->a.l=s.l.say t j 16 0->w.heap.size<=w'.heap.size->E.Ψ p (G (c.finish (.tuple #[i6 0,.iface 184 (ptr q)])) cs) w'):
 E.Ψ p (G (Frame.enter prog 159 #[ptr (D.lb j),ptr E.T] .normal) (c::cs)) w:=by
 have F:=W.f p;have h:=W.hB p;have a:=C.bd;have a:=C.sat;have c:=C.eH.lay j d;refine cJ func159 a 13 λJ a a a a g d f e=>Rb F h a d f 9 [] 1 [] [(7,ptr E.T),(6,ptr (D.lb j)),(0,ptr (D.lb j))] 9 1 [] λd d e d f f f=>ah F a d e 8 148 #[ptr (D.lb j),ptr E.T,i6 16,i6 0] λd d=>iU W {C with sat:=e.sat,bd:=by omega} b c λe b b l f=>d _ _ _ (b.sat.get ((c.pre _).cons.app (pM e))) λc c i f d=>?_;have d:=b.bd;let⟨ty,d,_⟩:=xT D (j+1);rw[d]at i;refine aq (λM=>bR (c) [i6 5,i6 j,i6 0,.nilIface]::(M)) 1 F h a f i 43 [0,0,1,1] 1 [] [(5,.iface 184 (ptr c)),(4,i6 0)] 20 1 [] λd h f d k k k=>cC F f a g d [] (.tuple #[i6 0,.iface 184 (ptr c)]) ?_;exact K e h c ⟨((Sat.BC (A:=[oR c 0 [i6 5,i6 j,i6 0,.nilIface] false]) f.sat.fix).perm (gY (A:=pM e))),b.pv,b.qi,b.fl.cons rfl,b.eH.cons,ω,b.cp,b.ln,b.ti⟩ l ω
def Fy(x y:Int):(if y<x then y else x)=min x y:=ω
def Ii(W:jF E D I t)(V:j<D.V.nl)(hk:(D.V.ly j).k=1)(IH:dV E D I t (j+1))(x:yF D R){c:aC}(hn:O0 J 155)(g gq:Nat->Int):
 ∀(m:Nat)(n:Int)(p:γ)(s:PS)(w:aj)(a0:Act)(B1:Nat),Cn E D t p s w R->Fin D.V I m (some (t,j+1,none)) s.l->m<=E.pS p->(s.l.tk t).a j=n->(1<=n/\n<=(D.V.ly j).a)->(∀i,i<j->(s.l.tk t).a i=g i)->(∀i,i<j->(s.l.tk t).q i=gq i)->a0.defers=[]->w.heap.size=B1->
   (s.l.tk t).p<=j->St (E.Ok p) B1 80 [(7,i6 n),(6,i6 (aI (D.V.ly j) n)),(0,ptr (D.lb j)),(1,ptr E.T)] (pM s++(E.me D t::(R++E.P p s))) 0 a0 w->
   (∀U l d w' X r b,U<m->U<=E.pS l->Cn E D t l d w' (X++R)->Fin D.V I U (some (t,j,some b)) d.l->Ov X r b->(∀i,i<j->(d.l.tk t).a i=g i)->(∀i,i<j->(d.l.tk t).q i=gq i)->E.Ψ l (G (ends c r) cs) w')->
   E.Ψ p (G (J.at a0 (pc prog 155 16 [] [8])) (c::cs)) w:=by
 intro m;induction m using Nat.strongRecOn with
 |_ m ihm=>
 intro n p s w a0 B1 C hf Ts ha CH hg hgq tN w ZG S0 K;have F:=W.f p;have o:=W.hB p;have w:=C.bd;have a:=hn.k;have L:=hn.f;let⟨ty,w,IZ⟩:=xT D (j+1);have f:=x.lay j V;rw[w]at f;unfold dV at IH;generalize iq D.V (j+1)=gf at*;have Z:=W.V.rt j V hk;replace S0:=S0.get ((f.pre _).cons.app (pM s));refine Rb F o a tN S0 10 [0,0,0,1] 1 [] [(27,ptr E.T),(26,.iface ty (ptr (D.lb (j+1)))),(7,i6 n),(6,i6 (aI (D.V.ly j) n)),(0,ptr (D.lb j)),(1,ptr E.T)] 26 1 [8] λw w1 S1 w zS Dx o9=>GM F a w 28 gf #[ptr (D.lb (j+1)),ptr E.T] (by rcases IZ with ⟨rfl,rfl⟩|⟨rfl,rfl⟩|⟨rfl,rfl⟩|⟨rfl,rfl⟩|⟨rfl,rfl⟩|⟨rfl,rfl⟩|⟨rfl,rfl⟩<;>kernel_rfl) ρ δ S1 λcf S=>IH m p s w1 R cf (c::cs) {C with sat:=S1.sat.tail,bd:=by omega} hf Ts λU l d w' X r b m m P m hr Jc DG=>?_;obtain⟨m1,rfl,A⟩:=CX hk (P.pp W C ZG) m;have m:=P.bd;replace F:=W.f l;replace o:=W.hB l;have OP:(d.l.tk t).a j=n:=(Jc j ω).trans ha;have v:∀i,i<j->(d.l.tk t).a i=g i:=λi k=>(Jc i ω).trans (hg i k);have u:∀i,i<j->(d.l.tk t).q i=gq i:=λi k=>(DG i ω).trans (hgq i k);rcases hr with ⟨Y,rfl⟩|⟨Y,e,rfl,he⟩|⟨Y,rfl⟩
 .refine S.ret _ _ _ _ _ P.sat λa2 B2 S2 H tM=>Rb F o a H S2 24 [] 127 [] [(5,.nilIface),(4,i6 b.n)] 51 3 [8] λa3 w3 S3 Q YF yO mH=>cC F S3 a L Q [] (.tuple #[i6 b.n,.nilIface]) ?_;exact K m1 l d w3 X (.inl (.tuple #[i6 b.n,.nilIface])) b ω ω {P with sat:=S3.sat,bd:=by omega} (A.out (.inl ω)) (.inl ⟨Y,rfl⟩) v u
 .have B:b.ch≠[]:=by
   rcases A.bk.2.2 with ⟨z,_⟩|⟨_,_,z⟩|⟨z,_⟩
   .omega
   .exact z
   .omega
  obtain⟨q,rfl⟩:∃q,e=.iface 184 (ptr q):=by
   cases mQ:b.ch with
   |nil=>grind
   |cons y ch=>rw[mQ]at he;let⟨q,_,h,_⟩:=he;exact⟨q,h⟩
  refine S.ret _ _ _ _ _ P.sat λa2 B2 S2 H tM=>Rb F o a H S2 13 [] 5 [] [(34,.iface 184 (ptr q)),(33,.bool false),(9,.iface 184 (ptr q)),(8,i6 0),(7,i6 n),(6,i6 (aI (D.V.ly j) n)),(0,ptr (D.lb j)),(1,ptr E.T)] 40 1 [8] λa3 w3 S3 Q YF yO mH=>ah F a Q S3 35 157 #[.iface 184 (ptr q)] λe e=>?_;have g:Yu (pM d++(E.me D t::((X++R)++E.P l d))) (.iface 184 (ptr q)) b.ch:=he.up λr hr=>(((hr.pre R).pre _).cons).app (pM d);refine zT F o g B S3.sat ω λg h g=>e _ _ _ h λe e T R e=>?_;by_cases g:cE b 2=true\/cE b 5=true
  .have e:(cE b 2||cE b 5)=true:=χ
   rw[e]at T;refine Rb F o a R T 10 [] 7 [] [(5,.iface 184 (ptr q)),(4,i6 0)] 51 3 [8] λa5 w5 Q p Y5 Dw qO=>cC F Q a L p [] (.tuple #[i6 0,.iface 184 (ptr q)]) ?_;exact K m1 l d w5 X (.inl (.tuple #[i6 0,.iface 184 (ptr q)])) b ω ω {P with sat:=Q.sat,bd:=by omega} (A.out (.inr g)) (.inr (.inl ⟨Y,_,rfl,he⟩)) v u
  .have e:(cE b 2||cE b 5)=false:=χ
   rw[e]at T;have w:¬(b.k≠2\/cE b 2=true\/cE b 5=true):=λz=>z.elim (λy=>y Y) g;replace T:=(T.get ((((x.Ig j V hk).app X).pre _).cons.app (pM d))).get (((((f.app X).pre _).cons).app (pM d)).cons);by_cases hna:n=(D.V.ly j).a
   .refine TP F o a R T 21 [1,0,0,1] 25 [] [(48,ptr E.T),(47,ptr (D.lb j)),(9,.iface 184 (ptr q)),(0,ptr (D.lb j))] 62 6 [8] [] [(n==(D.V.ly j).a,true)] [] [] λa5 w5 Q p Y5 Dw qO=>ah F a p Q 49 148 #[ptr (D.lb j),ptr E.T,i6 4,i6 0] λLO g=>iU W {P with sat:=Q.sat.tail.tail,bd:=by omega} A.sk.el (f.app X) λs w6 e e6 h=>g _ _ _ (e.sat.get ((((f.app X).pre _).cons).app (pM s))) λa6 y S6 m YG=>?_;have z:=e.bd;refine aq (λM=>bR (y) [i6 7,i6 j,i6 0,.iface 184 (ptr q)]::(M)) 1 F o a m S6 27 [0,0,1,1] 1 [] [(5,.iface 184 (ptr y)),(4,i6 0)] 76 6 [8] λa7 w7 O h M YQ DJ=>cC F O a L h [] (.tuple #[i6 0,.iface 184 (ptr y)]) ?_;have XC:=A.up w (OP.trans hna);rw[<-e6]at XC;exact K m1 l s w7 (oR y 0 [i6 7,i6 j,i6 0,.iface 184 (ptr q)] false::X) _ _ ω ω ⟨(Sat.BC (A:=[oR y 0 [i6 7,i6 j,i6 0,.iface 184 (ptr q)] false]) O.sat.fix).perm (gY (A:=pM s)),e.pv,e.qi,e.fl.cons rfl,e.eH.cons,ω,e.cp,e.ln,e.ti⟩ XC (.inr (.inl ⟨rfl,_,rfl,y,.iface 184 (ptr q),rfl,⟨rfl,0,rfl⟩,he.up λr hr=>hr.cons⟩)) (λi k=>by rw[e6];exact v i k) (λi k=>by rw[e6];exact u i k)
   .refine TP F o a R T 22 [1,0,0,1] 17 [] [(59,i6 (aI (D.V.ly j) n)),(58,ptr E.T),(57,ptr (D.lb j)),(35,.bool false),(34,.iface 184 (ptr q)),(7,i6 n),(6,i6 (aI (D.V.ly j) n)),(0,ptr (D.lb j)),(1,ptr E.T)] 63 4 [8] [] [(n==(D.V.ly j).a,false)] [] [] λa5 w5 Q p Y5 Dw qO=>GM F a p 60 156 #[ptr (D.lb j),ptr E.T,i6 (aI (D.V.ly j) n)] ρ ρ δ Q λLO g=>?_;have p:=zE Z.2.1.1 Z.2.2.1.1 Z.2.2.2.1 n;have f1:=A.on w ω;have f0:=A.ZN w ω;have fx:=A.dr w ω;rw[OP]at f1 f0 fx;refine Pd W {P with sat:=Q.sat.tail.tail,bd:=by omega} A.sk V hk ⟨ω,ω⟩ f1 f0 fx ω (λm6 w s w6 hm6 R e N p Q=>g.ret _ _ _ _ _ ((e.drop x).sat.get ((((x.Ig j V hk).pre _).cons).app (pM s))) λa6 y S6 m YG=>?_) λm6 w s w6 hm6 R e aaL N p Q=>g.ret _ _ _ _ _ e.sat λa6 y S6 m YG=>?_
    rotate_left
    .have z:=e.bd;replace F:=W.f w;replace o:=W.hB w;refine Rb F o a m S6 9 [] 7 [] [(65,ptr E.T),(64,ptr (D.lb j))] 73 12 [8] λa7 w7 O h M YQ DJ=>ah F a h O 66 159 #[ptr (D.lb j),ptr E.T] λg VA=>wv W {e with sat:=O.sat,bd:=by omega} V aaL λs8 g g C8 e8 V=>VA _ _ _ C8.sat λV V V Nn FN=>?_;have aa2:=C8.bd;refine Rb F o a Nn V 5 [] 1 [] [(5,.iface 184 (ptr g)),(4,i6 0)] 79 12 [8] λa9 w9 S9 QH Tl He X4=>cC F S9 a L QH [] (.tuple #[i6 0,.iface 184 (ptr g)]) ?_;rw[<-e8]at N;have B:∀i,i<j->i≠j:=λi k=>ω
     exact K m6 w s8 w9 (oR g 0 [i6 5,i6 j,i6 0,.nilIface] false::X) (.inl (.tuple #[i6 0,.iface 184 (ptr g)])) (c9 5 j 0) ω R {C8 with sat:=S9.sat,bd:=by omega} N (.inr (.inl ⟨rfl,_,rfl,g,.nilIface,rfl,⟨rfl,0,rfl⟩,rfl⟩)) (λi k=>by rw[e8];show(s.l.tk t).a i=_;rw[p];simp only[LS.Yj,LS.say,upd,if_true,B i k,if_false];exact v i k) (λi k=>by rw[e8];show(s.l.tk t).q i=_;rw[Q];exact u i k)
    have t:=e.drop x;have z:=e.bd;replace F:=W.f w;replace o:=W.hB w;refine Rb F o a m S6 15 [0,0,2,2] 5 [10] [(7,i6 (IntKind.wrap .i64 (n+1))),(6,i6 (if(D.V.ly j).d<IntKind.wrap .i64 (aI (D.V.ly j) n*(D.V.ly j).c)then(D.V.ly j).d else IntKind.wrap .i64 (aI (D.V.ly j) n*(D.V.ly j).c))),(35,.bool false),(34,.iface 184 (ptr q)),(0,ptr (D.lb j)),(1,ptr E.T)] 79 8 [8,10] λa7 w7 O h M YQ DJ=>?_;have g:IntKind.wrap .i64 (n+1)=n+1:=aA ω ω;have a:0<=aI (D.V.ly j) n*(D.V.ly j).c/\aI (D.V.ly j) n*(D.V.ly j).c<=10000*9:=⟨YE ω ω,YT ω ω ω ω⟩;have a:IntKind.wrap .i64 (aI (D.V.ly j) n*(D.V.ly j).c)=aI (D.V.ly j) n*(D.V.ly j).c:=aA ω ω;rw[g,a,Fy,<-vH Z.2.1.1 Z.2.2.1.1 Z.2.2.2.1 CH.1]at O;rw[show pc prog 155 79 (Bo 8) [8,10]=pc prog 155 16 [] [8] by kernel_rfl];have V:=O.dB [(7,i6 (n+1)),(6,i6 (aI (D.V.ly j) (n+1))),(0,ptr (D.lb j)),(1,ptr E.T)] ρ;refine ihm m6 ω (n+1) w s w7 a7 y {t with sat:=O.sat.tail,bd:=by omega} N R ?_ ⟨ω,ω⟩ (λi k=>?_) (λi k=>by rw[Q];exact u i k) h M (e.pp W C ZG) ⟨V.env,V.sat.tail,V.sz⟩ λU l d w' X r b a=>K U l d w' X r b ω
    .rw[p];simp[LS.Yj,upd]
    .rw[p];have B:i≠j:=ω
     simp only[LS.Yj,upd,if_true,B,if_false];exact v i k
 .obtain⟨a2,t2,rfl,H,a⟩:=S.NO;show E.Ψ l (G ((J.at a2 t2).raise (je (.iface 182 (i6 b.n)))) (c::cs)) w';rw[raise_at hn.m];refine F.lJ H (by rw[L];rfl) ?_;exact K m1 l d w' X (.inr (.iface 182 (i6 b.n))) b ω ω P (A.out (.inl ω)) (.inr (.inr ⟨Y,rfl⟩)) v u
def Ij(W:jF E D I t)(d:j<D.V.nl)(a:(D.V.ly j).k=1)(q:dV E D I t (j+1)):dV E D I t j:=by
 intro m p s w R c cs C l c K;rw[show iq D.V j=155 by unfold iq;grind];have F:=W.f p;have k:=W.hB p;have c:=C.bd;have f:=C.sat.get (((C.eH.Ig j d a).pre _).cons.app (pM s));obtain⟨n,rfl,g⟩:=CU d a l;refine cJ func155 f 80 λJ c u m f c c o h=>Rb F k f c o 16 [0,0,1,1,0,0,3,1] 1 [8] [(7,i6 1),(6,i6 (if(D.V.ly j).d<(D.V.ly j).b then(D.V.ly j).d else(D.V.ly j).b)),(0,ptr (D.lb j)),(1,ptr E.T)] 16 1 [8] λo k e h c f f=>?_;rw[Fy,<-xO]at e;have f:=(W.V.rt j d a).1;have f:=AL l;have l:=Cn.Yj (w:=k) {C with sat:=e.sat.tail,bd:=by omega} j 1;refine Ii W d a q C.eH m (λi=>(s.l.tk t).a i) (λi=>(s.l.tk t).q i) n 1 p {s with l:=s.l.Yj t j 1} k o u l g ω ?_ ⟨ω,ω⟩ (λi a=>?_) (λi a=>by simp[LS.Yj,upd]) h c (by simp only[LS.Yj,upd,if_true];exact f) ⟨e.env,l.sat,e.sz⟩ λd c a w' X r b f=>K d c a w' X r b ω
 .simp[LS.Yj,upd]
 .have a:i≠j:=ω
  simp[LS.Yj,upd,a]
def Ma(o:Oper)(x y d ty:Nat):Bool:=o.guard.isNone&&(match o.dst with|some d'=>d'==d|none=>false)&&(match o.op with
 |.slice t (.tmp x') (some (.tmp y')) none none=>t==ty&&x'==x&&y'==y
 |_=>false)
def HY{o:Oper}{x y d:Nat}(h:Ma o x y d ty=true):o.guard=none/\o.dst=some d/\o.op=.slice ty (.tmp x) (some (.tmp y)) none none:=by
 unfold Ma at h;simp only[bZ]at h;let⟨⟨_,_⟩,a⟩:=h;have a:o.guard=none:=by
  simp_all
 grind
def vr{e n:Nat}(a:Qc prog ty e n bt=true)(w:aj){q:Nat}(d:l<=q)(b:q<=cap):(Instr.sliceAt ty (.slice (some ca) q cap) (some (.int .i64 (l:Int))) none none).run prog w=.ok (.slice (some (if cap=l then ca else ca.add (l*n))) (q-l) (cap-l)) w/\
 (Instr.sliceAt ty (.slice (some ca) q cap) (some (.int .i64 (l:Int))) none none).events prog w #[]=#[]:=by
 let⟨inf,z,c,b,_,e,_,_,f⟩:=kv a;have a:(l:Int)<=(q:Int):=ω
 constructor
 .simp[Instr.sliceAt,run_underlying c,Instr.slice,Instr.sliceBounds,Instr.sliceBound,asIntOf,sizeOf,typeInfo,b,e,d];grind
 .simp[Instr.sliceAt,run_underlying c,Instr.slice,Instr.sliceBounds,Instr.sliceBound,asIntOf,sizeOf,typeInfo,b,d]
def bkS{e n:Nat}(u:Qc prog ty e n bt=true)(F:aB prog H (DX Ok) Ψ)(hB:HB B Ok){b:aC}(hk:b.kind=.normal){f k:Nat}{j:iy}{g:aN}(q:Nat)(A:List Hint)(C:iK)(J:Env){N:Nat}{E:Env}(x y d:Nat){ln:Nat}(ht:mP (pc prog f k j g)=true)(s:((aL (pc prog f k j g))[q]?).map (λo=>Ma o x y d ty)=some true){e:Int}(Q:e=(l:Int))(h:Ay prog [] [] (aL (pc prog f k j g)) q E M c c [x,y] (J.map Prod.fst) (iD prog B N E M c A C (aL (pc prog f k j g)) q)=some ⟨[some (.slice (some ca) ln cap),some (i6 e)],J.map (λp=>some p.2),M,c,[],[],[],true⟩)(hq:K5 Prod.fst (iD prog B N E M c A C (aL (pc prog f k j g)) q)=K5 Prod.snd (iD prog B N E M c A C (aL (pc prog f k j g)) q))(halt:tT prog (aL (pc prog f k j g)) [] [] true (iD prog B N E M c A C (aL (pc prog f k j g)) q)=tT prog (aL (pc prog f k j g)) [] [] false (iD prog B N E M c A C (aL (pc prog f k j g)) q))(D:(x==y)=false)(e:(J.map Prod.fst).contains d=false)(P:.inRegion (aL (pc prog f k j g)) (bP (q+1) ((aL (pc prog f k j g)).size-(q+1)))::behind (pc prog f k j g)=pc prog f (k+1) j (g++[q+1]))(z:l<=ln)(U:ln<=cap)(S:St Ok B N E M c a w)(K:∀V w',St Ok B N ((d,.slice (some (if cap=l then ca else ca.add (l*n))) (ln-l) (cap-l))::J) M c V w'->V.defers=a.defers->Ψ (G (b.at V (pc prog f (k+1) j (g++[q+1]))) cs) w'):Ψ (G (b.at a (pc prog f k j g)) cs) w:=by
 subst Q;cases t:(aL (pc prog f k j g))[q]? with
 |none=>rw[t]at s;cases s
 |some o=>
  rw[t]at s;let⟨g1,g2,X⟩:=HY (Option.some.inj s);refine X5 (Post:=λv w'=>v=.slice (some (if cap=l then ca else ca.add (l*n))) (ln-l) (cap-l)/\Sat Ok w' M/\w'.heap.size=B+c) [] [] F aK hB hk q A C c [(x,.slice (some ca) ln cap),(y,i6 l)] J M c [] [] [] ht t h hq (λI a=>?_) halt eU eU eU S (λv a m=>?_) (λY O rest L KK=>?_) (λv a a2 w3 m W T R a=>?_)
  .simp_all
  .exact⟨m.2.1.dB (λi r hr=>by cases hr),ω⟩
  .have b:Y.eval (.tmp x)=.slice (some ca) ln cap:=by rw[L.env.eval (by simp[kn,look])];simp[ev,look]
   have a:Y.eval (.tmp y)=.int .i64 (l:Int):=by rw[L.env.eval (by simp[kn,look,D])];simp[ev,look,D]
   refine F.AZ t (by simp[Region.wanted,g1]) ξ (λI=>?_) λI c c=>?_
   .unfold execOp;simp only[X,fI,YU,b,a,YV,(vr u (O.at I) (ca:=ca) z U).1,(vr u (O.at I) (ca:=ca) z U).2,xg];rfl
   .unfold execOp;simp only[X,fI,YU,b,a,Am,(vr u (O.at I) (ca:=ca) z U).1,Hv];exact c _ (KK _ _ ⟨rfl,L.sat,L.sz⟩)
  .obtain⟨rfl,Z,a⟩:=m;rw[P];rw[g2]at W;exact K a2 w3 ⟨W,Z.keep R,ω⟩ T
def oB(F:aB prog H (DX Ok) Ψ)(j:HB B Ok){s:PS}{c b a d:ay}(i:Sat Ok w (pM s++(oR lb 8 [c,b,i6 U,a,d] true::C)))(p:Has C (tQ lb wi num s.k.J))(l:Has C (wF T s.k.A t (s.l.tk t).c Y))(o:Vc Ok s.ea s.l.el s.ec)(a:B<=w.heap.size)(d:s.l.el<1000000)(a:0<=U/\U<1000000)(K:∀f a c w',Sat Ok w' (pM (s.dI f a c (s.l.say t num q 0))++(oR lb 8 [i6 st,i6 s.l.now,i6 (U+1),i6 0,.slice none 0 0] true::C))->Vc Ok (some ⟨f,0,none⟩) (s.l.el+1) a->w.heap.size<=w'.heap.size->Ψ (G (cf.finish (.tuple #[])) cs) w'):
 Ψ (G (Frame.enter prog 173 #[ptr lb,i6 st,ptr T,i6 q] .normal) (cf::cs)) w:=by
 have e:IntKind.wrap .i64 (U+1)=U+1:=aA ω ω;replace i:=i.get (l.cons.app (pM s));refine cJ func173 i 36 λJ b b b b h g n m=>aq (λM=>bh 8 (0,4) (.slice none 0 0) (bh 8 (0,3) (i6 0) (bh 8 (0,2) (i6 (IntKind.wrap .i64 (U+1))) (bh 8 (0,1) (i6 s.l.now) (bh 8 (0,0) (i6 st) (M)))))) 0 F j b g n 58 [0,0,0,1,1,0,0,1,8,0,0,3,8,0,2,3] 1 [] [(34,i6 q),(33,ptr T),(32,ptr lb)] 42 1 [] λg m k g n n n=>?_;rw[e]at k;have n:Sat Ok m (wF T s.k.A t (s.l.tk t).c Y::(pM s++(oR lb 8 [i6 st,i6 s.l.now,i6 (U+1),i6 0,.slice none 0 0] true::C))):=k.sat.cast ρ;refine ah F b g k 35 148 #[ptr lb,ptr T,i6 q,i6 0] λe e=>Er F j n.tail (p.cons) (l.cons) o ω d λf a c d l d g=>e _ _ _ l λe e l e g=>Rb F j b e l 1 [] 1 [] [] 44 1 [] λe j g e l l l=>cC F g b h e [] (.tuple #[]) ?_;exact K f a c j g.sat d ω
abbrev O6(lb:Nat)(x0 x1 x2 x3:ay)(Z:Addr)(c:Nat)(L:iy)(y:ju):List aH:=[oR lb 8 [x0,x1,x2,x3,.slice (some Z) L.length c] false,BN Z L,oR lb 3 [i6 y.a,i6 y.b,i6 y.c,i6 y.d,i6 y.e] false]
def FH{f e d b:ay}{L:iy}(h:Fr (Wr (O6 lb f e d b Z c L y)) w w'):Fr (λ_=>False) w w':=h.Cc λa ⟨i,r,j,g,a,_⟩=>by
 rw[dF]at g;grind
def v9(F:aB prog H (DX Ok) Ψ)(p:HB B Ok){J:aC}(b:J.kind=.normal)(l:J.fn=169){cf:aC}{cs:cO}{lb c B1:Nat}{E D C A:ay}{Z:Addr}{L:iy}{y:ju}{I:aj}(O:L.length<=30)(k:B<=B1):
 ∀(m i:Nat)(h:Act)(w:aj),i+m=L.length->h.defers=[]->w.heap.size=B1->Fr (λ_=>False) I w->St Ok B1 32 [(11,i6 i),(10,i6 L.length),(9,.slice (some Z) L.length c),(3,i6 (dY (L.take i))),(0,ptr lb)] (O6 lb E D C A Z c L y) 0 h w->
   (∀x w',x.defers=[]->w'.heap.size=B1->Fr (λ_=>False) I w'->St Ok B1 32 [(11,i6 L.length),(10,i6 L.length),(9,.slice (some Z) L.length c),(3,i6 (dY L)),(0,ptr lb)] (O6 lb E D C A Z c L y) 0 x w'->Ψ (G (J.at x (pc prog 169 20 [] [])) (cf::cs)) w')->Ψ (G (J.at h (pc prog 169 20 [] [])) (cf::cs)) w
 |0,i,h,w,t,a,j,o,n,K=>by
  rw[jI]at t;subst t;rw[List.take_length]at n;exact K h w a j o n
 |m+1,i,h,w,t,a,j,o,n,K=>by
  have N:IntKind.wrap .i64 ((i:Int)+1)=((i+1:Nat):Int):=by rw[aA ω ω];rfl
  have g:=uS (L:=L) (i:=i) ω;have u:=Yy (L.take i);rw[uq]at u;cases M:L.getD i false with
  |true=>
   rw[M,sJ rfl]at g;have j:IntKind.wrap .i64 ((dY (L.take i):Int)+1)=((dY (L.take (i+1)):Nat):Int):=by rw[g,aA ω ω];rfl
   refine TP F p b a n 31 [1,i,0,101] 106 [] [(11,i6 (IntKind.wrap .i64 ((↑i:Int)+1))),(3,i6 (IntKind.wrap .i64 ((↑(dY (List.take i L)):Int)+1))),(10,i6 (↑(List.length L):Int)),(9,.slice (some Z) (List.length L) c),(0,ptr lb)] 51 7 [] [] [(List.getD L i false,true),(decide ((↑i:Int)<(↑(List.length L):Int)),true)] [((↑i:Int),List.length L)] [(1,(i,List.length L))] λv q f d r s e=>?_;rw[N,j]at f;replace f:=f.dB [(11,i6 ((i+1:Nat):Int)),(10,i6 L.length),(9,.slice (some Z) L.length c),(3,i6 (dY (L.take (i+1)))),(0,ptr lb)] rfl;rw[show pc prog 169 51 (Bo 7) []=pc prog 169 20 [] [] by kernel_rfl];exact v9 F p b l O k m (i+1) v q ω d ω (o.trans (FH e) (λ_ z=>z.elim)) f K
  |false=>
   rw[M,af δ]at g;replace g:dY (L.take (i+1))=dY (L.take i):=g;refine TP F p b a n 27 [1,i,0,101] 74 [] [(11,i6 (IntKind.wrap .i64 ((↑i:Int)+1))),(10,i6 (↑(List.length L):Int)),(9,.slice (some Z) (List.length L) c),(3,i6 (↑(dY (List.take i L)):Int)),(0,ptr lb)] 47 5 [] [] [(List.getD L i false,false),(decide ((↑i:Int)<(↑(List.length L):Int)),true)] [((↑i:Int),List.length L)] [(1,(i,List.length L))] λv q f d r s e=>?_;rw[N,<-g]at f;rw[show pc prog 169 47 (Bo 5) []=pc prog 169 20 [] [] by kernel_rfl];exact v9 F p b l O k m (i+1) v q ω d ω (o.trans (FH e) (λ_ z=>z.elim)) f K
def JS(F:aB prog H (DX Ok) Ψ)(g:HB B Ok){f e d b:ay}{L:iy}(i:L.length<=30)(a:1<=y.c/\y.c<=100)(h:B<=w.heap.size)(h:Sat Ok w (O6 lb f e d b Z c L y))(K:∀w',Fr (λ_=>False) w w'->Ψ (G (cf.finish (.bool (over y L))) cs) w'):
 Ψ (G (Frame.enter prog 169 #[ptr lb] .normal) (cf::cs)) w:=by
 have b:decide ((L.length:Int)<(L.length:Int))=false:=ψ
 have b:=Yy L;have b:0<=y.c*(L.length:Int):=YE ω ω;have b:y.c*(L.length:Int)<=100*30:=YT a.2 ω ω ω;have e:IntKind.wrap .i64 (100*(dY L:Int))=100*(dY L:Int):=aA ω ω;have d:IntKind.wrap .i64 (y.c*(L.length:Int))=y.c*(L.length:Int):=aA ω ω;refine cJ func169 h 32 λJ a l a a b f j h=>Rb F g a f j 20 [0,0,4,1] 1 [] [(11,i6 0),(10,i6 (↑(List.length L):Int)),(9,.slice (some Z) (List.length L) c),(3,i6 0),(0,ptr lb)] 20 1 [] λj h k c f f f=>v9 F g a b i (B1:=l) ω L.length 0 j h (bK _) c ω (FH f) k λc c f c c h=>TP F g a f h 12 [2,0,2,1,0,0,4,1] 4 [12] [(2,.bool (decide (IntKind.wrap .i64 (100*(↑(dY L):Int))≥IntKind.wrap .i64 (y.c*(↑(List.length L):Int)))))] 32 2 [12] [] [(decide ((↑(List.length L):Int)<(↑(List.length L):Int)),false)] [] [] λf h i f g g g=>cC F i a b f [] (.bool (decide (IntKind.wrap .i64 (100*(↑(dY L):Int))≥IntKind.wrap .i64 (y.c*(↑(List.length L):Int))))) ?_;rw[e,d,show decide (100*(dY L:Int)≥y.c*(L.length:Int))=over y L by unfold over;grind];exact K h (c.trans (FH g) (λ_ z=>z.elim))
def Sat.vw{s:PS}{k i d b:ay}{L:iy}(h:Sat Ok w (pM s++(oR lb 8 [k,i,d,b,.slice (some ⟨g,o,none⟩) L.length c] true::fR ⟨g,0,none⟩ 1 v (o+c) true::C)))(x:Has C (oR lb 3 [i6 y.a,i6 y.b,i6 y.c,i6 y.d,i6 y.e] false))(s:L.length<=c)(u:∀j,j<L.length->(v (o+j)).getD 0 undef=.bool (L.getD j false)):Sat Ok w (O6 lb k i d b ⟨g,o,none⟩ c L y):=by
 have q:=h.mem (r:=oR lb 8 [k,i,d,b,.slice (some ⟨g,o,none⟩) L.length c] true) ψ;have p:=h.mem (r:=fR ⟨g,0,none⟩ 1 v (o+c) true) ψ;let⟨_,b,m⟩:=x;have t:=h.mem (r:=oR lb 3 [i6 y.a,i6 y.b,i6 y.c,i6 y.d,i6 y.e] false) (by rw[dF]at m;grind);refine sat_iff.2 ⟨λr l=>?_,?_⟩
 .simp only[ak,bH,or_false]at l;rcases l with rfl|rfl|rfl
  .exact⟨q.val,λj a=>⟨(q.ok j a).1,λz=>(by cases z)⟩,λz=>(by cases z),λg e n z=>(by cases z)⟩
  .have key:∀j:Ix,(BN (⟨g,o,none⟩:Addr) L).has j->(fR ⟨g,0,none⟩ 1 v (o+c) true).has (o+j.1,0)/\(BN (⟨g,o,none⟩:Addr) L).ad j=(fR ⟨g,0,none⟩ 1 v (o+c) true).ad (o+j.1,0)/\(BN (⟨g,o,none⟩:Addr) L).get j=(fR ⟨g,0,none⟩ 1 v (o+c) true).get (o+j.1,0):=λj a=>by
    let⟨j,f⟩:=j;have A:j<L.length:=a.1;have b:f<1:=a.2;obtain rfl:f=0:=ω
    exact⟨⟨χ,aD⟩,by simp[ey],(u j A).symm⟩
   exact⟨λj a=>by rw[(key j a).2.1,(key j a).2.2];exact p.val _ (key j a).1,λj a=>⟨by rw[(key j a).2.1];exact(p.ok _ (key j a).1).1,λz=>(by cases z)⟩,λz=>(by cases z),λg e n z=>(by cases z)⟩
  .exact t
 .refine WE λr l a a a=>?_;grind
def FL(F:aB prog H (DX Ok) Ψ)(f:HB B Ok){s:PS}{L:iy}(Z:Sat Ok w (pM s++(oR lb 8 [i6 st,i6 si,i6 U,i6 pr,.slice (some ⟨g,o,none⟩) L.length c] true::fR ⟨g,0,none⟩ 1 v (o+c) true::C)))(h1:Has C (tQ lb wi num s.k.J))(h2:Has C (wF T s.k.A t (s.l.tk t).c Y))(h3:Has C (oR lb 3 [i6 y.a,i6 y.b,i6 y.c,i6 y.d,i6 y.e] false))(hv:Vc Ok s.ea s.l.el s.ec)(P:B<=w.heap.size)(A:s.l.el<1000000)(X:0<=U/\U<1000000)(B:0<L.length)(hLc:L.length<=c)(B:(L.length:Int)<=y.a+1)(hy:(1<=y.a/\y.a<=20)/\(1<=y.c/\y.c<=100))(B:∀j,j<L.length->(v (o+j)).getD 0 undef=.bool (L.getD j false)){L':iy}(hL':L'=if(L.length:Int)>y.a then L.tail else L)(K1:¬(y.b<=L'.length/\over y L'=true)->∀B P w',B+P=o+c->L'.length<=P->(∀j,j<L'.length->(v (B+j)).getD 0 undef=.bool (L'.getD j false))->Sat Ok w' (pM s++(oR lb 8 [i6 st,i6 si,i6 U,i6 pr,.slice (some ⟨g,B,none⟩) L'.length P] true::fR ⟨g,0,none⟩ 1 v (B+P) true::C))->w.heap.size<=w'.heap.size->Ψ (G (cf.finish (.tuple #[])) cs) w')(K2:y.b<=L'.length/\over y L'=true->∀O d i w',Sat Ok w' (pM (s.dI O d i (s.l.say t num 9 0))++(oR lb 8 [i6 1,i6 s.l.now,i6 (U+1),i6 0,.slice none 0 0] true::C))->Vc Ok (some ⟨O,0,none⟩) (s.l.el+1) d->w.heap.size<=w'.heap.size->Ψ (G (cf.finish (.tuple #[])) cs) w'):
 Ψ (G (Frame.enter prog 175 #[ptr lb,ptr T] .normal) (cf::cs)) w:=by
 obtain⟨l,B,t⟩:∃l:Nat,(l=if(L.length:Int)>y.a then 1 else 0)/\(l:Int)=(if IntKind.wrap .i64 ((L.length:Int)-y.a)>0 then IntKind.wrap .i64 ((L.length:Int)-y.a)else 0):=by
  rw[aA ω ω];grind
 have w:L'=L.drop l:=by
  rw[hL',B];split<;>simp
 have w:l<=1:=χ
 have w:l<L.length:=by
  grind
 have G:L'.length=L.length-l:=χ
 replace Z:=Z.get (h3.cons.cons.app (pM s));refine cJ func175 Z 40 λJ B B1 B b u B S0 P=>Rb F f b B S0 1 [] 1 [] [(0,ptr lb),(1,ptr T)] 1 1 [] λB B S1 B P P P=>bkS t152 F (λa wr z=>f a wr ω) b 16 (Hq [8,0,4,1,8,0,4,1,0,0,0,1]) [] [(4,ptr lb),(0,ptr lb),(1,ptr T)] 8 19 20 (ca:=⟨g,o,none⟩) (l:=l) (ln:=L.length) (cap:=c) ρ ρ t.symm ρ ρ ρ rfl ρ ρ (Nat.le_of_lt w) hLc S1 λa a R r=>?_;have t:(if c=l then(⟨g,o,none⟩:Addr)else(⟨g,o,none⟩:Addr).add (l*1))=⟨g,o+l,none⟩:=by rw[af ω,ey,lm]
 rw[t,<-G]at R;rw[B]at r;have t:a.heap.size=B1:=by have:=R.sz;omega
 have k:∀j,j<L'.length->(v (o+l+j)).getD 0 undef=.bool (L'.getD j false):=λj j=>by
  grind
 have n:o+l+(c-l)=o+c:=ω
 have fin:∀e:World,a.heap.size<=e.heap.size->Sat Ok e (bh 8 (0,4) (.slice (some (Addr.mk g (o+l) none)) (List.length L') (c-l)) (oR lb 3 [i6 y.a,i6 y.b,i6 y.c,i6 y.d,i6 y.e] false::(pM s++(oR lb 8 [i6 st,i6 si,i6 U,i6 pr,.slice (some ⟨g,o,none⟩) L.length c] true::fR ⟨g,0,none⟩ 1 v (o+c) true::C))))->Sat Ok e (pM s++(oR lb 8 [i6 st,i6 si,i6 U,i6 pr,.slice (some ⟨g,o+l,none⟩) L'.length (c-l)] true::fR ⟨g,0,none⟩ 1 v (o+l+(c-l)) true::C)):=λe x h=>by
  rw[n];have a:Sat Ok e (oR lb 3 [i6 y.a,i6 y.b,i6 y.c,i6 y.d,i6 y.e] false::(pM s++(oR lb 8 [i6 st,i6 si,i6 U,i6 pr,.slice (some ⟨g,o+l,none⟩) L'.length (c-l)] true::fR ⟨g,0,none⟩ 1 v (o+c) true::C))):=h.cast ρ;exact a.tail
 by_cases E:y.b<=L'.length
 .have D:decide ((L'.length:Int)≥y.b)=true:=χ
  refine aX (λM=>bh 8 (0,4) (.slice (some (Addr.mk g (o+l) none)) (List.length L') (c-l)) (M)) 0 F f b r R 9 [8,0,4,1,8,0,4,1,0,0,1,1] 6 [9] [(34,ptr lb),(33,.bool true),(0,ptr lb),(1,ptr T)] 11 1 [17,9] [] [(decide ((↑(List.length L'):Int)≥y.b),true)] [] [] λa3 e N q V x mH=>ah F b q N 35 169 #[ptr lb] λa h=>?_;have j:=fin e ω N.sat;refine JS F f (L:=L') (y:=y) ω hy.2 ω (j.vw h3 ω k) λa a=>?_;have s:=a.size;refine h _ _ _ (j.keep a) λa a Q I a=>?_;cases m:over y L' with
  |true=>
   rw[m]at Q;refine Rb F f b I Q 6 [] 7 [] [(38,ptr T),(37,ptr lb)] 18 3 [17,9] λa5 w5 K p S W qO=>ah F b p K 39 173 #[ptr lb,i6 1,ptr T,i6 9] λa a=>oB F f K.sat h1.cons h2.cons hv ω A X λO d i h s h j=>a _ _ _ s λa a s a j=>Rb F f b a s 1 [] 1 [] [] 20 3 [17,9] λa s j a t t t=>cC F j b u a [] (.tuple #[]) ?_;exact K2 ⟨E,m⟩ O d i s (j.sat.sub (nN (.cons_cons _ (.cons _ (.refl _))) _)) h ω
  |false=>
   rw[m]at Q;refine Rb F f b I Q 4 [] 5 [] [] 16 2 [17,9] λa5 w5 K p S W qO=>cC F K b u p [] (.tuple #[]) ?_;exact K1 (λz=>χ) (o+l) (c-l) w5 n ω k K.sat ω
 .have D:decide ((L'.length:Int)≥y.b)=false:=χ
  refine aX (λM=>bh 8 (0,4) (.slice (some (Addr.mk g (o+l) none)) (List.length L') (c-l)) (M)) 0 F f b r R 14 [8,0,4,1,8,0,4,1,0,0,1,1] 84 [9] [] 16 2 [17,9] [] [(decide ((↑(List.length L'):Int)≥y.b),false)] [] [] λa3 e N q V x mH=>cC F N b u q [] (.tuple #[]) ?_;exact K1 (λz=>E z.1) (o+l) (c-l) e n ω k (fin e ω N.sat) ω
def FM(F:aB prog H (DX Ok) Ψ)(f:HB B Ok){s:PS}{L:iy}(M:Sat Ok w (pM s++(oR lb 8 [i6 st,i6 si,i6 U,i6 pr,.slice (some ⟨g,o,none⟩) L.length c] true::fR ⟨g,0,none⟩ 1 v (o+c) true::C)))(h1:Has C (tQ lb wi num s.k.J))(h2:Has C (wF T s.k.A t (s.l.tk t).c Y))(h3:Has C (oR lb 3 [i6 y.a,i6 y.b,i6 y.c,i6 y.d,i6 y.e] false))(hv:Vc Ok s.ea s.l.el s.ec)(x:B<=w.heap.size)(h:s.l.el<1000000)(z:0<=U/\U<1000000)(B:L.length<=c)(x:(L.length:Int)<=y.e)(hy:(1<=y.c/\y.c<=100)/\(1<=y.e/\y.e<=9))(x:∀j,j<L.length->(v (o+j)).getD 0 undef=.bool (L.getD j false))(K1:(L.length:Int)≠y.e->∀w',Sat Ok w' (pM s++(oR lb 8 [i6 st,i6 si,i6 U,i6 pr,.slice (some ⟨g,o,none⟩) L.length c] true::fR ⟨g,0,none⟩ 1 v (o+c) true::C))->w.heap.size<=w'.heap.size->Ψ (G (cf.finish (.tuple #[])) cs) w')(K2:(L.length:Int)=y.e->∀r b d w',Sat Ok w' (pM (s.dI r b d (s.l.say t num (bif over y L then 9 else 11) 0))++(oR lb 8 [i6 (bif over y L then 1 else 0),i6 s.l.now,i6 (U+1),i6 0,.slice none 0 0] true::C))->Vc Ok (some ⟨r,0,none⟩) (s.l.el+1) b->w.heap.size<=w'.heap.size->Ψ (G (cf.finish (.tuple #[])) cs) w'):
 Ψ (G (Frame.enter prog 176 #[ptr lb,ptr T] .normal) (cf::cs)) w:=by
 have c:=M;replace M:=M.get (h3.cons.cons.app (pM s));refine cJ func176 M 22 λJ c c c a q E S0 c=>?_;by_cases k:(L.length:Int)=y.e
 .refine TP F f a E S0 10 [8,0,4,1,0,0,4,1] 4 [9] [(14,ptr lb),(0,ptr lb),(1,ptr T)] 10 2 [9] [] [(decide ((↑(List.length L):Int)<y.e),false)] [] [] λa1 w1 u p S Z o9=>ah F a p u 15 169 #[ptr lb] λc g=>JS F f (L:=L) (y:=y) ω hy.1 ω (u.sat.tail.vw h3 B x) λc c=>?_;have j:=c.size;refine g _ _ _ (u.sat.tail.keep c) λc c N D c=>?_;cases A:over y L with
  |true=>
   rw[A]at N K2;refine Rb F f a D N 5 [] 7 [] [(17,ptr T),(16,ptr lb)] 16 6 [9] λa3 w3 K n R X mH=>ah F a n K 18 173 #[ptr lb,i6 1,ptr T,i6 9] λIb e=>oB F f K.sat h1.cons h2.cons hv ω h z λr b d w4 h4 i W=>e _ _ _ h4 λa4 B4 S4 m Q=>Rb F f a m S4 1 [] 1 [] [] 18 6 [9] λa5 O I l P V qO=>cC F I a q l [] (.tuple #[]) ?_;exact K2 k r b d O (I.sat.sub (nN (.cons_cons _ (.cons _ (.refl _))) _)) i ω
  |false=>
   rw[A]at N K2;refine Rb F f a D N 5 [] 5 [] [(20,ptr T),(19,ptr lb)] 16 4 [9] λa3 w3 K n R X mH=>ah F a n K 21 173 #[ptr lb,i6 0,ptr T,i6 11] λIb e=>oB F f K.sat h1.cons h2.cons hv ω h z λr b d w4 h4 i W=>e _ _ _ h4 λa4 B4 S4 m Q=>Rb F f a m S4 1 [] 1 [] [] 18 4 [9] λa5 O I l P V qO=>cC F I a q l [] (.tuple #[]) ?_;exact K2 k r b d O (I.sat.sub (nN (.cons_cons _ (.cons _ (.refl _))) _)) i ω
 .refine TP F f a E S0 6 [8,0,4,1,0,0,4,1] 6 [9] [] 6 3 [9] [] [(decide ((↑(List.length L):Int)<y.e),true)] [] [] λa1 w1 u p S Z o9=>cC F u a q p [] (.tuple #[]) ?_;exact K1 k w1 u.sat.tail ω
def sF{x:Int}(a:x≠7):∀(ch:List iN),ch≠[]->(∀y∈ch.dropLast,y.k=7)->(ch.any λy=>y.k==x)=decide ((match ch.getLast? with|some y=>y.k|none=>0)=x)
 |[],h,_=>absurd rfl h
 |[y],_,_=>χ
 |y::z::ch,_,h=>by
  have b:y.k=7:=h y ψ;have b:(y.k==x)=false:=χ
  rw[Ao,b,uh,sF a (z::ch) ψ (λu a=>h u ξ)];rfl
def uB(F:aB prog H (DX Ok) Ψ)(g:HB B Ok)(k:G5 b)(i:(b.k≠2/\e=.nilIface)\/(b.k=2/\Yu C e b.ch))(t:Sat Ok w C)(A:B<=w.heap.size)(K:∀w',Sat Ok w' C->w.heap.size<=w'.heap.size->Ψ (G (cf.finish (.bool (decide (bq b=3\/bq b=5)))) cs) w'):
 Ψ (G (Frame.enter prog 174 #[e] .normal) (cf::cs)) w:=by
 rcases i with ⟨w,rfl⟩|⟨w,i⟩
 .have A:b.ch=[]:=by
   rcases k.2.2 with ⟨_,z⟩|⟨z,_⟩|⟨_,z⟩
   .exact z
   .omega
   .exact z
  have w:bq b=0:=by unfold bq;rw[A];rfl
  rw[w]at K;refine cJ func174 t 11 λJ I L x a d f r n=>UF F g a d f r 62 [] 521599 [] 2 (.bool false) 16 1 [] λs l m o=>K s l.sat ω
 .have c:b.ch≠[]:=by
   rcases k.2.2 with ⟨z,_⟩|⟨_,_,z⟩|⟨z,_⟩
   .omega
   .exact z
   .omega
  have E:(b.ch.any λy=>y.k==3)=decide (bq b=3):=sF δ b.ch c k.2.1;have D:(b.ch.any λy=>y.k==5)=decide (bq b=5):=sF δ b.ch c k.2.1;obtain⟨q,v⟩:∃q,e=.iface 184 (ptr q):=by
   cases p:b.ch with
   |nil=>simp_all
   |cons y ch=>rw[p]at i;let⟨q,_,h,_⟩:=i;simp_all
  subst v;refine cJ func174 t 11 λJ I L x a d f r n=>Rb F g a f r 8 [] 1 [] [(4,.iface 187 (i6 3)),(3,.iface 184 (ptr q)),(0,.iface 184 (ptr q))] 8 1 [] λe s l e m o f=>ah F a e l 5 162 #[.iface 184 (ptr q),.iface 187 (i6 3)] λe e=>IM F g i c l.sat ω λf k f=>e _ _ _ k λe e j e f=>?_;rw[E]at j;by_cases h:bq b=3
  .rw[show decide (bq b=3)=true by simp_all]at j;rw[show decide (bq b=3\/bq b=5)=true by simp[h]]at K;refine UF F g a d e j 7 [] 127 [] 2 (.bool true) 16 1 [] λm f k l=>K m f.sat ω
  .rw[show decide (bq b=3)=false by simp_all]at j;rw[show decide (bq b=3\/bq b=5)=decide (bq b=5) by simp[h]]at K;refine Rb F g a e j 3 [] 21 [] [(8,.iface 187 (i6 5)),(6,.bool false),(7,.iface 184 (ptr q))] 12 1 [] λe m f e k l h=>ah F a e f 9 162 #[.iface 184 (ptr q),.iface 187 (i6 5)] λe e=>IM F g i c f.sat ω λc f c=>e _ _ _ f λc c u c e=>?_;rw[D]at u;refine UF F g a d c u 3 [] 1 [] 2 (.bool (decide (bq b=5))) 16 1 [] λa c b b=>K a c.sat ω
abbrev mI(lb:Nat)(g:Gt)(f:Fb):List aH:=[oR lb 8 [i6 g.st,i6 g.si,i6 g.pd,i6 g.pr,su f g.la.length] true,fR ⟨f.g,0,none⟩ 1 f.v (f.o+f.c) true]
def BK(Ok:dh)(Ψ:gi)(cf:aC)(cs:cO)(w:aj)(s:PS)(C:aW)(lb j:Nat)(L:LS):Prop:=
 ∀ea ec vv f' w',Sat Ok w' (pM {s with ea:=ea,ec:=ec,vv:=vv,f:=upd s.f j f',l:=L}++(mI lb (L.gt j) f'++C))->Vc Ok ea L.el ec->qv Ok (L.gt j).la f'->w.heap.size<=w'.heap.size->Ψ (G (cf.finish (.tuple #[])) cs) w'
def jC:Fb:=⟨false,0,0,0,λ_=>[]⟩
def Zj:qv Ok [] jC:=⟨λ_=>⟨rfl,rfl,rfl⟩,λz=>(by cases z),λz=>(by cases z),λj a=>(by cases a)⟩
def Bu(L:LS)(j:Nat)(g:Gt):(L.aO j g).gt j=g:=by simp[LS.aO,upd]
def BK.turn{cf:aC}{cs:cO}{w w':aj}{s:PS}{C:aW}{lb j t g' cap':Nat}{vs':eX}{st q:Int}{L:LS}(K:BK Ok Ψ cf cs w s C lb j ((L.aO j ((L.gt j).turn L.now st)).say t j q 0))(a:L.now=s.l.now/\L.el=s.l.el/\L.ev=s.l.ev/\L.us=s.l.us/\L.ou=s.l.ou/\(L.tk t).c=(s.l.tk t).c)(h:Sat Ok w' (pM (s.dI g' cap' vs' (s.l.say t j q 0))++(oR lb 8 [i6 st,i6 s.l.now,i6 ((L.gt j).pd+1),i6 0,.slice none 0 0] true::C)))(b:Vc Ok (some ⟨g',0,none⟩) (s.l.el+1) cap')(b:w.heap.size<=w'.heap.size):Ψ (G (cf.finish (.tuple #[])) cs) w':=by
 let⟨d,_,_,_,_,e⟩:=a;have a:((L.aO j ((L.gt j).turn L.now st)).say t j q 0).gt j=(L.gt j).turn L.now st:=Bu L j _;refine K (some ⟨g',0,none⟩) cap' vs' jC w' ?_ (by show Vc Ok _ (L.el+1) _;simp_all) (by rw[a];exact Zj) b;rw[a];have a:Sat Ok w' (fR ⟨jC.g,0,none⟩ 1 jC.v (jC.o+jC.c) true::(pM (s.dI g' cap' vs' (s.l.say t j q 0))++(oR lb 8 [i6 st,i6 s.l.now,i6 ((L.gt j).pd+1),i6 0,.slice none 0 0] true::C))):=h.qj rfl rfl;have c:=a.perm (fA [fR ⟨jC.g,0,none⟩ 1 jC.v (jC.o+jC.c) true] (pM (s.dI g' cap' vs' (s.l.say t j q 0))++[oR lb 8 [i6 st,i6 s.l.now,i6 ((L.gt j).pd+1),i6 0,.slice none 0 0] true]) C|>.trans ψ|>λx=>(show(fR ⟨jC.g,0,none⟩ 1 jC.v (jC.o+jC.c) true::(pM (s.dI g' cap' vs' (s.l.say t j q 0))++(oR lb 8 [i6 st,i6 s.l.now,i6 ((L.gt j).pd+1),i6 0,.slice none 0 0] true::C))).Perm (pM (s.dI g' cap' vs' (s.l.say t j q 0))++(oR lb 8 [i6 st,i6 s.l.now,i6 ((L.gt j).pd+1),i6 0,.slice none 0 0] true::fR ⟨jC.g,0,none⟩ 1 jC.v (jC.o+jC.c) true::C))from by simpa using x));have a:pM {s with ea:=some ⟨g',0,none⟩,ec:=cap',vv:=vs',f:=upd s.f j jC,l:=(L.aO j ((L.gt j).turn L.now st)).say t j q 0}=pM (s.dI g' cap' vs' (s.l.say t j q 0)):=by
  unfold pM PS.dI LS.say LS.aO;simp_all
 rw[a,d];exact c
def Oa(F:aB prog H (DX Ok) Ψ)(o:HB B Ok)(a:J.kind=.normal)(n:J.fn=172){a2:Act}{B2:Nat}{s:PS}{f:Fb}(hg:Fv y (s.l.gt j) 1000000000000 0)(Qi:(s.l.gt j).st=0\/(s.l.gt j).st=2)(V:St Ok B2 43 [(9,.bool (decide (bq b=3\/bq b=5))),(0,ptr lb),(1,ptr T),(2,.bool (decide (b.k≠1)))] (pM s++(mI lb (s.l.gt j) f++C)) 0 a2 w)(U:a2.defers=[])(tM:w.heap.size=B2)(h1:Has C (tQ lb wi j s.k.J))(h2:Has C (wF T s.k.A t (s.l.tk t).c Y))(h3:Has C (oR lb 3 [i6 y.a,i6 y.b,i6 y.c,i6 y.d,i6 y.e] false))(hv:Vc Ok s.ea s.l.el s.ec)(u:qv Ok (s.l.gt j).la f)(yQ:B<=w.heap.size)(O:s.l.el<1000000)(hq:(s.l.tk t).q j=(s.l.gt j).pd)(hy:(1<=y.a/\y.a<=20)/\(1<=y.c/\y.c<=100)/\(1<=y.e/\y.e<=9))(K:BK Ok Ψ cf cs w s C lb j (s.l.count y t j b)):
 Ψ (G (J.at a2 (pc prog 172 5 [] [])) (cf::cs)) w:=by
 have B:=hg.pr;have B:=hg.pd;have B:(s.l.gt j).la.length<=20:=by rcases hg.st with ⟨_,z⟩|⟨z,_⟩|⟨_,z⟩<;>omega
 obtain⟨base,S,q⟩:∃base,su f (s.l.gt j).la.length=.slice base (s.l.gt j).la.length f.c/\((base=some ⟨f.g,f.o,none⟩/\f.s=true)\/base=none/\f.o=0/\f.c=0):=by
  cases D:f.s with
  |true=>exact⟨_,by unfold su;simp_all,.inl ⟨rfl,rfl⟩⟩
  |false=>
   let⟨z1,z2,z3⟩:=u.nil D;exact⟨none,by unfold su;simp_all,.inr ⟨rfl,z2,z3⟩⟩
 simp only[mI,S]at V;have G:=V.sat;have B:∀ba,base=some ba->f.g<w.heap.size:=λba z=>by
  rcases q with ⟨_,z1⟩|⟨z1,_⟩
  .have P:=(u.len z1)
   have:=(G.mem (r:=fR ⟨f.g,0,none⟩ 1 f.v (f.o+f.c) true) ψ).val (0,0) ⟨χ,aD⟩;exact au this
  simp_all
 by_cases hlk:bq b=3\/bq b=5
 .have B:s.l.count y t j b=s.l.aO j {s.l.gt j with pr:=if(s.l.gt j).st=2 then(s.l.gt j).pr-1 else(s.l.gt j).pr}:=by unfold LS.count;simp_all
  rw[B]at K;rw[show decide (bq b=3\/bq b=5)=true by simp_all]at V;rcases Qi with P|P
  .rw[af ω]at K;refine TP F o a U V 13 [7,0,0,1] 19 [] [] 18 5 [] [] [((s.l.gt j).st==2,false)] [] [] λa3 w3 Q h B G mH=>cC F Q a n h [] (.tuple #[]) ?_;refine K s.ea s.ec s.vv f w3 ?_ hv (by rw[Bu];exact u) ω;rw[Bu];simp only[mI,S];exact Q.sat
  .rw[sJ P]at K;have Dz:IntKind.wrap .i64 ((s.l.gt j).pr-1)=(s.l.gt j).pr-1:=aA ω ω;refine aX (λM=>bh 7 (0,3) (i6 (IntKind.wrap .i64 ((s.l.gt j).pr-1))) (M)) 0 F o a U V 22 [7,0,0,1,7,0,3,1,7,0,3,1] 27 [] [] 27 7 [] [] [((s.l.gt j).st==2,true)] [] [] λa3 w3 Q h B G mH=>cC F Q a n h [] (.tuple #[]) ?_;rw[Dz]at Q;refine K s.ea s.ec s.vv f w3 ?_ hv (by rw[Bu];exact u) ω;rw[Bu];simp only[mI,S];exact Q.sat.cast ρ
 .rw[show decide (bq b=3\/bq b=5)=false by simp_all]at V;rw[pW hq hlk]at K;refine aq (λM=>bR (B2) [.bool (decide (b.k≠1))]::(M)) 1 F o a U V 12 [7,0,4,1] 5 [] [(28,.slice (some ⟨B2,0,none⟩) 1 1),(26,.slice base (List.length (s.l.gt j).la) f.c),(22,ptr lb),(0,ptr lb),(1,ptr T)] 17 2 [] λa3 w3 Q h B G mH=>Wo t152 δ F o a 26 28 29 9 0 (g:=f.g) (o0:=0) (o:=f.o) (base:=base) (len:=(s.l.gt j).la.length) (cap:=f.c) (y:=.bool (decide (b.k≠1))) (v:=f.v) ρ ρ δ rfl rfl (q.imp (λz=>ξ) id) rfl ⟨az _,λ_=>rfl⟩ rfl rfl (λba z=>⟨χ,?_⟩) ?_ ω ω ω Q λp b4 r N I a4 w4 B _ h4 z1 z2 z3 B z5 KU E=>?_
  .rcases q with ⟨_,c⟩|⟨c,_⟩
   .exact u.ok c
   .rw[c]at z;cases z
  .rcases q with ⟨_,c⟩|⟨c,v,W⟩
   .exact(u.len c).2
   .cases D:f.s with
    |true=>have:=(u.len D).2;omega
    |false=>rw[(u.nil D).1];simp
  obtain rfl:b4=0:=ω
  rw[bK]at z3 KU;rw[show jB (pc prog 172 17 (Bo 2) [])=pc prog 172 18 [false] [] by kernel_rfl];obtain⟨g,hLx⟩:∃g,g=(s.l.gt j).la++[decide (b.k≠1)]:=⟨_,rfl⟩;have hll:(s.l.gt j).la.length+1=g.length:=ξ
  have Uu:∀i,i<g.length->(N (r+i)).getD 0 undef=.bool (g.getD i false):=λi B=>by
   by_cases e:i=(s.l.gt j).la.length
   .grind
   .rw[z1 i ω,u.val i ω,hLx];grind
  have U1:∀(Z:Addr)(wr:Bool),Z.block=p->Ok Z wr:=by
   rcases z3 with z|z
   .rcases q with ⟨e,c⟩|⟨c,_⟩
    .rw[e]at z;cases z;exact u.ok c
    .rw[c]at z;cases z
   .exact λZ wr e=>o Z wr ω
  have S4:St Ok w4.heap.size 43 _ _ 0 a4 w4:=⟨KU,h4.tail (M:=pM s++(oR lb 8 [i6 (s.l.gt j).st,i6 (s.l.gt j).si,i6 (s.l.gt j).pd,i6 (s.l.gt j).pr,.slice base (s.l.gt j).la.length f.c] true::fR ⟨p,0,none⟩ 1 N (r+I) true::C)),rfl⟩;replace S4:=S4.dB [(29,.slice (some ⟨p,r,none⟩) ((s.l.gt j).la.length+1) I),(22,ptr lb),(0,ptr lb),(1,ptr T)] rfl;rw[hll]at S4 z5;replace E:=E.trans h;generalize Bj:w4.heap.size=e at S4;unfold LS.pU at K;simp only[Bu]at K;have fbo:∀(l:iy)(X c':Nat),0<l.length->l.length<=c'->(∀i,i<l.length->(N (X+i)).getD 0 undef=.bool (l.getD i false))->qv Ok l ⟨true,p,X,c',N⟩:=λl X c' c v W=>⟨λz=>(by cases z),λ_=>⟨c,v⟩,λ_=>U1,W⟩
  rcases Qi with P|P
  .have u:(s.l.gt j).keep y (decide (b.k≠1))=if(g.length:Int)>y.a then g.tail else g:=by
    unfold Gt.keep;grind
   have hle:((s.l.gt j).la.length:Int)<=y.a:=by rcases hg.st with ⟨_,z⟩|⟨z,_⟩|⟨z,_⟩<;>omega
   refine aX (λM=>bh 7 (0,4) (.slice (some (Addr.mk p r none)) (List.length g) I) (M)) 0 F o a E S4 16 [7,0,4,1,7,0,0,1] 6 [] [(38,ptr T),(37,ptr lb)] 34 6 [] [] [((s.l.gt j).st==0,true)] [] [] λa5 w5 S5 B Y5 Dw qO=>ah F a B S5 39 175 #[ptr lb,ptr T] λLO e=>?_;have h6:Sat Ok w5 (pM s++(oR lb 8 [i6 (s.l.gt j).st,i6 (s.l.gt j).si,i6 (s.l.gt j).pd,i6 (s.l.gt j).pr,.slice (some ⟨p,r,none⟩) g.length I] true::fR ⟨p,0,none⟩ 1 N (r+I) true::C)):=S5.sat.cast ρ;have ZR:0<((s.l.gt j).keep y (decide (b.k≠1))).length:=by
    grind
   refine FL F o h6 h1 h2 h3 hv ω O ω ω z5 ω ⟨hy.1,hy.2.1⟩ Uu u (λU X c' w6 c v W y4 y5=>e _ _ _ y4 λa6 B6 S h l=>?_) (λd g' k x w6 c v W=>e _ _ _ c λa6 B6 S h l=>?_)
   .rw[af (λz=>χ),af (λz=>ω)]at K;refine Rb F o a h S 1 [] 1 [] [] 36 6 [] λa7 L m f i q G=>cC F m a n f [] (.tuple #[]) ?_;refine K s.ea s.ec s.vv ⟨true,p,X,c',N⟩ L ?_ hv (by rw[Bu];exact fbo _ X c' ZR v W) ω;rw[Bu];simp only[mI,su,if_true];exact m.sat
   .rw[sJ ⟨.inl ⟨P,d.1⟩,d.2⟩]at K;refine Rb F o a h S 1 [] 1 [] [] 36 6 [] λa7 L m f i q G=>cC F m a n f [] (.tuple #[]) ?_;have R:=BK.turn (Ok:=Ok) (Ψ:=Ψ) (cf:=cf) (cs:=cs) (w:=w) (s:=s) (C:=C) (lb:=lb) (j:=j) (t:=t) (L:=s.l.aO j {s.l.gt j with la:=(s.l.gt j).keep y (decide (b.k≠1))}) (g':=g') (cap':=k) (vs':=x) (w':=L) (st:=1) (q:=9) (by simp only[Bu];exact K) ⟨rfl,rfl,rfl,rfl,rfl,rfl⟩;simp only[Bu]at R;exact R (m.sat.sub (nN (.cons_cons _ (.refl _)) _)) v ω
  .have u:(s.l.gt j).keep y (decide (b.k≠1))=g:=by
    unfold Gt.keep;grind
   have hle:((s.l.gt j).la.length:Int)<y.e:=by rcases hg.st with ⟨z,_⟩|⟨z,_⟩|⟨_,z⟩<;>omega
   rw[u]at K;refine aX (λM=>bh 7 (0,4) (.slice (some (Addr.mk p r none)) (List.length g) I) (M)) 0 F o a E S4 16 [7,0,4,1,7,0,0,1] 4 [] [(41,ptr T),(40,ptr lb)] 34 4 [] [] [((s.l.gt j).st==0,false)] [] [] λa5 w5 S5 B Y5 Dw qO=>ah F a B S5 42 176 #[ptr lb,ptr T] λLO e=>?_;have h6:Sat Ok w5 (pM s++(oR lb 8 [i6 (s.l.gt j).st,i6 (s.l.gt j).si,i6 (s.l.gt j).pd,i6 (s.l.gt j).pr,.slice (some ⟨p,r,none⟩) g.length I] true::fR ⟨p,0,none⟩ 1 N (r+I) true::C)):=S5.sat.cast ρ;refine FM F o h6 h1 h2 h3 hv ω O ω z5 ω hy.2 Uu (λU w6 y4 y5=>e _ _ _ y4 λa6 B6 S h l=>?_) (λd g' k x w6 c v W=>e _ _ _ c λa6 B6 S h l=>?_)
   .rw[af (λz=>ω),af (λz=>U z.2)]at K;refine Rb F o a h S 1 [] 1 [] [] 36 4 [] λa7 L m f i q G=>cC F m a n f [] (.tuple #[]) ?_;refine K s.ea s.ec s.vv ⟨true,p,r,I,N⟩ L ?_ hv (by rw[Bu];grind) ω;rw[Bu];simp only[mI,su,if_true];exact m.sat
   .refine Rb F o a h S 1 [] 1 [] [] 36 4 [] λa7 L m f i q G=>cC F m a n f [] (.tuple #[]) ?_;cases A:over y g with
    |true=>
     rw[A,sJ ⟨.inr ⟨P,d⟩,rfl⟩]at K;rw[A]at m;have R:=BK.turn (Ok:=Ok) (Ψ:=Ψ) (cf:=cf) (cs:=cs) (w:=w) (s:=s) (C:=C) (lb:=lb) (j:=j) (t:=t) (L:=s.l.aO j {s.l.gt j with la:=g}) (g':=g') (cap':=k) (vs':=x) (w':=L) (st:=1) (q:=9) (by simp only[Bu];exact K) ⟨rfl,rfl,rfl,rfl,rfl,rfl⟩;simp only[Bu]at R;exact R m.sat v ω
    |false=>
     rw[A,af (λz=>by cases z.2),sJ ⟨P,d⟩]at K;rw[A]at m;have R:=BK.turn (Ok:=Ok) (Ψ:=Ψ) (cf:=cf) (cs:=cs) (w:=w) (s:=s) (C:=C) (lb:=lb) (j:=j) (t:=t) (L:=s.l.aO j {s.l.gt j with la:=g}) (g':=g') (cap':=k) (vs':=x) (w':=L) (st:=0) (q:=11) (by simp only[Bu];exact K) ⟨rfl,rfl,rfl,rfl,rfl,rfl⟩;simp only[Bu]at R;exact R m.sat v ω
def GO(F:aB prog H (DX Ok) Ψ)(A:HB B Ok){s:PS}{f:Fb}(hg:Fv y (s.l.gt j) 1000000000000 0)(N:(s.l.gt j).st=0\/(s.l.gt j).st=2)(W:Sat Ok w (pM s++(mI lb (s.l.gt j) f++C)))(h1:Has C (tQ lb wi j s.k.J))(h2:Has C (wF T s.k.A t (s.l.tk t).c Y))(h3:Has C (oR lb 3 [i6 y.a,i6 y.b,i6 y.c,i6 y.d,i6 y.e] false))(hv:Vc Ok s.ea s.l.el s.ec)(hf:qv Ok (s.l.gt j).la f)(yQ:B<=w.heap.size)(x:s.l.el<1000000)(hq:(s.l.tk t).q j=(s.l.gt j).pd)(Z:(1<=y.a/\y.a<=20)/\(1<=y.c/\y.c<=100)/\(1<=y.e/\y.e<=9))(Q:G5 b)(B:(b.k≠2/\e=.nilIface)\/(b.k=2/\Yu C e b.ch))(K:BK Ok Ψ cf cs w s C lb j (s.l.count y t j b)):
 Ψ (G (Frame.enter prog 172 #[ptr lb,ptr T,.bool (decide (b.k≠1)),e] .normal) (cf::cs)) w:=by
 have d:(b.k≠2/\e=.nilIface)\/(b.k=2/\Yu (pM s++(mI lb (s.l.gt j) f++C)) e b.ch):=B.imp id λz=>⟨z.1,z.2.up λr r=>(r.app _).app _⟩
 generalize hM:pM s++(mI lb (s.l.gt j) f++C)=M at*;have fin:∀{J:aC},J.kind=.normal->J.fn=172->∀m l p,St Ok p 43 [(9,.bool (decide (bq b=3\/bq b=5))),(0,ptr lb),(1,ptr T),(2,.bool (decide (b.k≠1)))] M 0 m l->m.defers=[]->l.heap.size=p->w.heap.size<=l.heap.size->Ψ (G (J.at m (pc prog 172 5 [] [])) (cf::cs)) l:=λa k m l p u g c v=>by
  rw[<-hM]at u;exact Oa F A a k hg N u g c h1 h2 h3 hv hf ω x hq Z λx w s t w' r j f B=>K x w s t w' r j f ω
 rcases d with ⟨O,rfl⟩|⟨O,d⟩
 .refine cJ func172 W 43 λJ a0 B1 hn a k o V I=>Rb F A a o V 4 [] 1 [] [(8,.nilIface),(0,ptr lb),(1,ptr T),(2,.bool (decide (b.k≠1)))] 4 1 [] λa1 X D n E L S=>ah F a n D 9 174 #[.nilIface] λU i=>uB F A Q (.inl ⟨O,rfl⟩) D.sat ω λl R v=>i _ _ _ R λm p u g c=>fin a k m l p (u.dB _ rfl) g c ω
 .obtain⟨q,rfl⟩:∃q,e=.iface 184 (ptr q):=by
   cases P:b.ch with
   |nil=>
    rcases Q.2.2 with ⟨z,_⟩|⟨_,_,z⟩|⟨z,_⟩
    .omega
    .simp_all
    .omega
   |cons y ch=>rw[P]at d;let⟨q,_,h,_⟩:=d;simp_all
  refine cJ func172 W 43 λJ a0 B1 hn a k o V I=>Rb F A a o V 4 [] 1 [] [(8,.iface 184 (ptr q)),(0,ptr lb),(1,ptr T),(2,.bool (decide (b.k≠1)))] 4 1 [] λa1 X D n E L S=>ah F a n D 9 174 #[.iface 184 (ptr q)] λU i=>uB F A Q (.inr ⟨O,d⟩) D.sat ω λl R v=>i _ _ _ R λm p u g c=>fin a k m l p (u.dB _ rfl) g c ω
def Sat.Ug{P:aW}{r a:aH}(h:Sat Ok w (P++(r::a::C))):Sat Ok w (P++(r::fR ⟨jC.g,0,none⟩ 1 jC.v (jC.o+jC.c) true::C)):=by
 have a:Sat Ok w (fR ⟨jC.g,0,none⟩ 1 jC.v (jC.o+jC.c) true::((P++[r])++C)):=Sat.qj (h.sub ψ) rfl rfl;have b:=Sat.back (A:=P++[r]) a;simp_all
def MP(F:aB prog H (DX Ok) Ψ)(l:HB B Ok){s:PS}{f:Fb}(a:Fv y (s.l.gt j) 1000000000000 0)(p:Sat Ok w (pM s++(mI lb (s.l.gt j) f++C)))(L:Has C (tQ lb wi j s.k.J))(K:Has C (wF T s.k.A t (s.l.tk t).c Y))(I:Has C (oR lb 3 [i6 y.a,i6 y.b,i6 y.c,i6 y.d,i6 y.e] false))(x:Vc Ok s.ea s.l.el s.ec)(E:qv Ok (s.l.gt j).la f)(b:B<=w.heap.size)(i:s.l.el<1000000)(b:0<=s.l.now/\s.l.now<1000000000000)(b:1<=y.e/\y.e<=9)(D:((s.l.gt j).st=1/\s.l.now-(s.l.gt j).si<y.d)\/((s.l.gt j).st=2/\(s.l.gt j).pr=y.e)->∀w',Sat Ok w' (pM s++(mI lb (s.l.gt j) f++C))->w.heap.size<=w'.heap.size->Ψ (G (cf.finish (.bool false)) cs) w')(K2:¬(((s.l.gt j).st=1/\s.l.now-(s.l.gt j).si<y.d)\/((s.l.gt j).st=2/\(s.l.gt j).pr=y.e))->∀g c h b w',Sat Ok w' (pM {s with ea:=g,ec:=c,vv:=h,f:=upd s.f j b,l:=(s.l.aM t j).cz j}++(mI lb (((s.l.aM t j).cz j).gt j) b++C))->Vc Ok g ((s.l.aM t j).cz j).el c->qv Ok (((s.l.aM t j).cz j).gt j).la b->w.heap.size<=w'.heap.size->Ψ (G (cf.finish (.bool true)) cs) w'):
 Ψ (G (Frame.enter prog 170 #[ptr lb,ptr T] .normal) (cf::cs)) w:=by
 have b:=a.si;have b:=a.pd;have b:=a.pr;have b:IntKind.wrap .i64 (s.l.now-(s.l.gt j).si)=s.l.now-(s.l.gt j).si:=aA ω ω;have v:IntKind.wrap .i64 ((s.l.gt j).pr+1)=(s.l.gt j).pr+1:=aA ω ω;have e:(s.l.gt j).st=0\/(s.l.gt j).st=1\/(s.l.gt j).st=2:=by rcases a.st with ⟨z,_⟩|⟨z,_⟩|⟨z,_⟩<;>omega
 have a:=p;obtain⟨A,k⟩:∃A,A=su f (s.l.gt j).la.length:=⟨_,rfl⟩;simp only[mI,<-k]at p D;replace p:=(p.get ((K.cons.cons).app (pM s))).get ((I.cons.cons.app (pM s)).cons);refine cJ func170 p 51 λJ a a a a c b r g=>?_;rcases e with u|u|u
 .have m:s.l.aM t j=s.l:=by unfold LS.aM;simp_all
  have q:s.l.cz j=s.l:=by unfold LS.cz;simp_all
  rw[m,q]at K2;refine ZI F l a c b r 39 [9,0,0,1,9,0,0,1] 1090519040 [17] 4 (.bool true) 39 8 [17] [1,13] [((s.l.gt j).st==2,false),((s.l.gt j).st==1,false)] [] [] λe d g h=>K2 (λz=>ω) s.ea s.ec s.vv f e ?_ x E ω;simp only[mI,<-k];exact d.sat.tail.tail
 .by_cases n:s.l.now-(s.l.gt j).si<y.d
  .refine ZI F l a c b r 31 [9,0,0,1,1,0,0,1,2,0,0,1,9,0,1,1,0,0,3,1,9,0,0,1] 413837994 [17] 4 (.bool false) 31 6 [17] [1,1,12] [((s.l.gt j).st==1,true),(decide (IntKind.wrap .i64 (s.l.now-(s.l.gt j).si)≥y.d),false),((s.l.gt j).st==1,true)] [] [] λe d g h=>D (.inl ⟨u,n⟩) e d.sat.tail.tail ω
  .have m:s.l.aM t j=(s.l.aO j ((s.l.gt j).turn s.l.now 2)).say t j 10 0:=by unfold LS.aM;simp_all
   have n:((s.l.aM t j).gt j)=(s.l.gt j).turn s.l.now 2:=by rw[m];exact Bu ..
   have o:((s.l.aM t j).gt j).st=2:=by rw[n];rfl
   have q:(s.l.aM t j).cz j=(s.l.aM t j).aO j {(s.l.aM t j).gt j with pr:=((s.l.aM t j).gt j).pr+1}:=by unfold LS.cz;simp_all
   rw[q,Bu,n,m]at K2;refine TP F l a b r 14 [9,0,0,1,1,0,0,1,2,0,0,1,9,0,1,1,0,0,3,1] 111848106 [17] [(25,ptr T),(24,ptr lb),(0,ptr lb)] 14 3 [17] [1,12] [(decide (IntKind.wrap .i64 (s.l.now-(s.l.gt j).si)≥y.d),true),((s.l.gt j).st==1,true)] [] [] λn e d n g h o=>ah F a n d 26 173 #[ptr lb,i6 2,ptr T,i6 10] λn o=>oB F l d.sat.tail.tail L.cons K.cons x ω i ω λG i n w K w B=>o _ _ _ (K.get (I.cons.cons.app (pM _))) λo o I o B=>oH (λM=>bh 8 (0,3) (i6 1) (M)) 0 F l a c o I 44 [8,0,0,1,8,0,3,1,0,0,4,1,8,0,3,1,8,0,3,1] 77 [8] 4 (.bool true) 59 21 [17,8] [] [(0==y.e,false)] [] [] λB I o o=>K2 (λz=>ω) (some ⟨G,0,none⟩) i n jC B ?_ w Zj ω;have o:Sat Ok B (oR lb 3 [i6 y.a,i6 y.b,i6 y.c,i6 y.d,i6 y.e] false::(pM (s.dI G i n (s.l.say t j 10 0))++(oR lb 8 [i6 2,i6 s.l.now,i6 ((s.l.gt j).pd+1),i6 1,.slice none 0 0] true::fR ⟨f.g,0,none⟩ 1 f.v (f.o+f.c) true::C))):=I.sat.cast ρ;exact Sat.Ug o.tail
 .have m:s.l.aM t j=s.l:=by unfold LS.aM;simp_all
  have q:s.l.cz j=s.l.aO j {s.l.gt j with pr:=(s.l.gt j).pr+1}:=by unfold LS.cz;simp_all
  rw[m,q,Bu]at K2;by_cases i:(s.l.gt j).pr=y.e
  .refine ZI F l a c b r 43 [9,0,0,1,9,0,0,1,9,0,3,1,0,0,4,1] 6996099072 [17,8] 4 (.bool false) 43 28 [17,8] [1,1,13] [((s.l.gt j).pr==y.e,true),((s.l.gt j).st==2,true),((s.l.gt j).st==1,false)] [] [] λe d g h=>D (.inr ⟨u,i⟩) e d.sat.tail.tail ω
  .refine oH (λM=>bh 9 (0,3) (i6 (IntKind.wrap .i64 ((s.l.gt j).pr+1))) (M)) 0 F l a c b r 55 [9,0,0,1,9,0,0,1,9,0,3,1,0,0,4,1,9,0,3,1,9,0,3,1] 4848615424 [17,8] 4 (.bool true) 55 20 [17,8] [1,1,13] [((s.l.gt j).pr==y.e,false),((s.l.gt j).st==2,true),((s.l.gt j).st==1,false)] [] [] λe d g h=>?_;rw[v]at d;refine K2 (λz=>ω) s.ea s.ec s.vv f e ?_ x E ω;simp only[mI,<-k];have o:Sat Ok e (oR lb 3 [i6 y.a,i6 y.b,i6 y.c,i6 y.d,i6 y.e] false::wF T s.k.A t (s.l.tk t).c Y::(pM s++(oR lb 8 [i6 (s.l.gt j).st,i6 (s.l.gt j).si,i6 (s.l.gt j).pd,i6 ((s.l.gt j).pr+1),A] true::fR ⟨f.g,0,none⟩ 1 f.v (f.o+f.c) true::C))):=d.sat.cast ρ;exact o.tail.tail
structure LG(t j:Nat)(L L':LS):Prop where
 al:L'.al=L.al
 ag:L'.ag=L.ag
 wl:L'.wl=L.wl
 wt:L'.wt=L.wt
 now:L'.now=L.now
 tl:L'.tl=L.tl
 us:L'.us=L.us
 ou:L'.ou=L.ou
 tk:∀i,i≠t->L'.tk i=L.tk i
 tc:∃q,L'.tk t={L.tk t with q:=q}
 ta:(L'.tk t).a=(L.tk t).a
 tq:∀i,i≠j->(L'.tk t).q i=(L.tk t).q i
 gt:∀i,i≠j->L'.gt i=L.gt i
def LG.Z6(h:LG t j L L')(i:Nat):∃q,L'.tk i={L.tk i with q:=q}:=by
 by_cases e:i=t
 .subst e;exact h.tc
 .exact⟨_,h.tk i e⟩
def LG.bY:LG t j L L:=⟨rfl,rfl,rfl,rfl,rfl,rfl,rfl,rfl,λ_ _=>rfl,⟨_,rfl⟩,rfl,λ_ _=>rfl,λ_ _=>rfl⟩
def LG.trans{t j:Nat}{L c b:LS}(h:LG t j L c)(a:LG t j c b):LG t j L b:=⟨a.al.trans h.al,a.ag.trans h.ag,a.wl.trans h.wl,a.wt.trans h.wt,a.now.trans h.now,a.tl.trans h.tl,a.us.trans h.us,a.ou.trans h.ou,λi b=>(a.tk i b).trans (h.tk i b),(by let⟨q,c⟩:=h.tc;let⟨_,c⟩:=a.tc;simp_all),a.ta.trans h.ta,λi b=>(a.tq i b).trans (h.tq i b),λi b=>(a.gt i b).trans (h.gt i b)⟩
def LG.say{t j:Nat}{L:LS}(a b c:Int):LG t j L (L.say t a b c):=⟨rfl,rfl,rfl,rfl,rfl,rfl,rfl,rfl,λ_ _=>rfl,⟨_,rfl⟩,rfl,λ_ _=>rfl,λ_ _=>rfl⟩
def LG.aO{t j:Nat}{L:LS}(g:Gt):LG t j L (L.aO j g):=⟨rfl,rfl,rfl,rfl,rfl,rfl,rfl,rfl,λ_ _=>rfl,⟨_,rfl⟩,rfl,λ_ _=>rfl,λi a=>by simp[LS.aO,upd,a]⟩
def LG.mark{t j:Nat}{L:LS}:LG t j L (L.mark t j):=⟨rfl,rfl,rfl,rfl,rfl,rfl,rfl,rfl,λi a=>by simp[LS.mark,upd,a],⟨_,sJ rfl⟩,by simp[LS.mark,upd],λi a=>by simp[LS.mark,upd,a],λ_ _=>rfl⟩
def LG.W0:LG t j L ((L.aM t j).cz j):=by
 have a:LG t j L (L.aM t j):=by
  unfold LS.aM;split
  .exact(LG.aO _).trans (LG.say ..)
  .exact LG.bY
 refine a.trans ?_;unfold LS.cz;split
 .exact LG.aO _
 .exact LG.bY
def LG.count{t j:Nat}{L:LS}(y:ju)(b:Bk):LG t j L (L.count y t j b):=by
 unfold LS.count;split
 .exact LG.bY
 .split
  .exact LG.aO _
  .dsimp only;split
   .exact(LG.aO _).trans (LG.say ..)
   .split
    .exact(LG.aO _).trans (LG.say ..)
    .exact LG.aO _
def QI.cg{s a:PS}(Q:QI s)(g:a.k=s.k)(b:a.q=s.q)(c:a.wb=s.wb/\a.cv=s.cv/\a.cx=s.cx/\a.T=s.T/\a.wk=s.wk)(f:a.l.al=s.l.al/\a.l.ag=s.l.ag/\a.l.wl=s.l.wl/\a.l.tl=s.l.tl):QI a:=by
 let⟨k,j,c3,i,h⟩:=c;let⟨c,a,e,d⟩:=f;refine⟨by rw[b,c,a];exact Q.lt,by rw[b,c,a];exact Q.all,by rw[b,a];exact Q.pN,by rw[b,a,e];exact Q.ws,?_⟩;rw[b,a];unfold Mz;rw[g,k,j,c3,i,h,d];exact Q.cv
def TI.cg{s a:PS}(Q:TI s)(d:a.k=s.k)(g:a.wb=s.wb/\a.cx=s.cx/\a.wk=s.wk/\a.bl=s.bl/\a.cm=s.cm)(h:a.l.wl=s.l.wl/\a.l.wt=s.l.wt/\a.l.tl=s.l.tl)(b:∀j,(a.l.tk j).c=(s.l.tk j).c/\(a.l.tk j).f=(s.l.tk j).f/\(a.l.tk j).p=(s.l.tk j).p/\(a.l.tk j).o=(s.l.tk j).o):TI a:=by
 let⟨p,n,c3,m,l⟩:=g;let⟨e,a,f⟩:=h;refine⟨by rw[d,f];exact Q.nc,by rw[e,a,f];exact Q.wt,by rw[e,a,n,l,d];exact Q.cm,λj h=>?_,λj k i=>?_,λj h=>?_,λj h=>?_,by rw[e,a];exact Q.zz,λc k i j w o h=>by rw[m];exact Q.al c (by rw[<-d];exact k) (by rw[<-f];exact i) j w (by rw[<-(b c).2.1];exact o) (by rw[<-a];exact h)⟩
 .rw[d,(b j).1,(b j).2.2.1];exact Q.cl j ω
 .rw[(b j).2.1,(b j).2.2.1,d,e,a,p,n,c3,l];exact Q.wk j ξ ω
 .rw[m,d,e,a,f];refine⟨(Q.ch j ω).1,λc g=>?_⟩;rw[(b c).2.1];exact(Q.ch j ω).2 c g
 .rw[(b j).2.2.2,e,a,d];exact Q.can j ω
def pQ(A G R O:aW)(a:aH):(A++(a::(R++(G++O)))).Perm (A++(G++(a::(R++O)))):=by
 refine eN A ?_;have h:=fA (a::R) G O;simp_all
def Cn.open{p:γ}{s:PS}(C:Cn E D t p s w R)(b:j<D.V.nl):Sat (E.Ok p) w (pM s++(gR (D.V.ly j) (D.lb j) (s.l.gt j) (s.f j) (s.lq j)++(E.me D t::(R++(gX s j++E.O p))))):=by
 have b:=C.hk;have a:=Yo s (k:=j) ξ;rw[b]at a;refine(C.sat.perm ?_).perm (pQ ..);refine eN _ (List.Perm.cons _ (eN _ ?_));rw[<-dU];exact a.append_right _
def Cn.shut{p:γ}{s:PS}(C:Cn E D t p s w R)(f:j<D.V.nl){ea:eP}{ec:Nat}{vv:eX}{f':Fb}(b:LG t j s.l L')(h:Sat (E.Ok p) w' (pM {s with ea:=ea,ec:=ec,vv:=vv,f:=upd s.f j f',l:=L'}++(gR (D.V.ly j) (D.lb j) (L'.gt j) f' (s.lq j)++(E.me D t::(R++(gX s j++E.O p))))))(f:Vc (E.Ok p) ea L'.el ec)(f:(D.V.ly j).k=4->qv (E.Ok p) (L'.gt j).la f')(f:(D.V.ly j).k=5->f'=s.f j)(u:w.heap.size<=w'.heap.size):Cn E D t p {s with ea:=ea,ec:=ec,vv:=vv,f:=upd s.f j f',l:=L'} w' R:=by
 have f:=C.hk;obtain⟨c,a⟩:∃c:PS,c={s with ea:=ea,ec:=ec,vv:=vv,f:=upd s.f j f',l:=L'}:=⟨_,rfl⟩;have g:c.k=D:=ξ
 have n:c.f j=f':=by rw[a];simp[upd]
 have m:gX c j=gX s j:=K3 (by rw[a]) (λi l=>by rw[a];exact b.gt i l) (λi l=>by rw[a];simp[upd,l]) (by rw[a];exact⟨⟨b.wl,λi _=>by unfold wR;simp only[b.wt];rfl⟩,b.tl,λi _=>by
  let⟨q,o⟩:=b.Z6 i;unfold j7;simp_all⟩) (by rw[a])
 have f:c.l=L':=by rw[a]
 have r:=Yo c (k:=j) ξ;rw[g,n,f,m,show c.lq=s.lq by rw[a]]at r;have o:∀i,fF c i=fF s i:=λi=>by rw[a];unfold fF;simp only[b.ag]
 have g:bA c=bA s:=by unfold bA;simp_all
 rw[<-a]at h ⊢;have m:∀i,(c.l.tk i).c=(s.l.tk i).c/\(c.l.tk i).f=(s.l.tk i).f/\(c.l.tk i).p=(s.l.tk i).p/\(c.l.tk i).o=(s.l.tk i).o:=λi=>by
  let⟨q,o⟩:=b.Z6 i;simp_all
 refine⟨(h.perm (pQ ..).symm).perm ?_,⟨ξ,by rw[g,a];exact C.pv.en,by rw[a];exact C.pv.eo,λk d g=>?_,λk d g=>?_,by rw[a];exact C.pv.cx,λk d=>?_⟩,?_,C.fl,C.eH,aT C.bd u,C.cp.gq (by rw[a];exact⟨rfl,rfl,rfl,b.al,b.ag,b.wl,b.wt,b.now,b.tl,λi l=>⟨(s.l.tk i).x,b.tk i l⟩,ξ,λi _=>⟨by rw[b.ou],rfl⟩,⟨rfl,rfl,rfl⟩,λ_=>rfl⟩),λk d g=>by rw[a];simp only[b.wl,b.wt];exact C.ln k d g,?_⟩
 .refine eN _ (List.Perm.cons _ (eN _ ?_));rw[<-dU];exact(r.append_right _).symm
 .by_cases e:k=j
  .simp_all
  .have:=C.pv.fb k ξ ξ;rw[f,b.gt k e];rw[show c.f k=s.f k by rw[a];simp[upd,e]];exact this
 .have:=C.pv.rm k ξ ξ;rw[show c.lq=s.lq by rw[a],show c.wb=s.wb by rw[a]];by_cases e:k=j
  .simp_all
  .rw[show c.f k=s.f k by rw[a];simp[upd,e]];exact this
 .have:=C.pv.bg k (by rw[f,b.tl]at d;exact d);simp_all
 .exact C.qi.cg (by rw[a]) (by rw[a]) ξ (by rw[f];exact⟨b.al,b.ag,b.wl,b.tl⟩)
 .exact C.ti.cg (by rw[a]) ξ (by rw[f];exact⟨b.wl,b.wt,b.tl⟩) m
def Gk(a:j<V.nl)(b:(V.ly j).k=3)(h:Fin V I m (some (t,j,none)) L):∃a,m=a+1/\qm V t L/\
 ((L.gt j).sm=true/\(L.gt j).nx-L.now>((V.ly j).b-1)*(V.ly j).a->Fin V I a (some (t,j,some (c9 3 j 0))) (L.say t j 7 0))/\
 (¬((L.gt j).sm=true/\(L.gt j).nx-L.now>((V.ly j).b-1)*(V.ly j).a)->Fin V I a (some (t,j+1,none)) ((L.aO j {L.gt j with sm:=true,nx:=(if(L.gt j).sm=false\/(L.gt j).nx<L.now then L.now else(L.gt j).nx)+(V.ly j).a}).say t j 6 0)):=by
 cases m with
 |zero=>exact h.elim
 |succ m=>
  let⟨a,_,_,d,c⟩:=h;have e:(j=V.nl)=False:=θ
  refine⟨m,rfl,a,λa=>?_,λa=>?_⟩
  .simp only[LS.step,e,if_false,b,af (show¬(3:Int)=1 by decide),if_true,LS.jg,LS.nV]at c;simp_all
  .simp only[LS.step,e,if_false,b,af (show¬(3:Int)=1 by decide),if_true,LS.jg,LS.nV]at c;grind
def CV(c:(V.ly j).k=3)(a:(L.tk t).p<=j)(h:Fin V I m (some (t,j+1,some b)) L):∃a,m=a+1/\qm V t L/\G5 b/\Fin V I a (some (t,j,some b)) L:=by
 cases m with
 |zero=>exact h.elim
 |succ m=>
  let⟨_,_,_,a,d⟩:=h;have e:(j+1=(L.tk t).p)=False:=θ
  simp only[LS.step,e,if_false,eM,c,af (show¬(3:Int)=1 by decide),af (show¬(3:Int)=4 by decide),af (show¬((3:Int)=2/\b.k=3) by omega)]at d;simp_all
def rL(W:jF E D I t){p:γ}{s:PS}(C:Cn E D t p s w R)(b:j<D.V.nl)(f:qm D.V t s.l){c:aC}(K:∀a w' q,Cn E D t p a w' (oR q 0 [i6 3,i6 j,i6 0,.nilIface] false::R)->a.l=s.l.say t j 7 0->w.heap.size<=w'.heap.size->E.Ψ p (G (c.finish (.tuple #[i6 0,.iface 184 (ptr q)])) cs) w'):
 E.Ψ p (G (Frame.enter prog 167 #[ptr (D.lb j),ptr E.T] .normal) (c::cs)) w:=by
 have F:=W.f p;have h:=W.hB p;have a:=C.bd;have a:=C.sat;have c:=C.eH.lay j b;refine cJ func167 a 13 λJ a a a a g b e d=>Rb F h a b e 9 [] 1 [] [(7,ptr E.T),(6,ptr (D.lb j)),(0,ptr (D.lb j))] 9 1 [] λb b e b d d d=>ah F a b e 8 148 #[ptr (D.lb j),ptr E.T,i6 7,i6 0] λb d=>iU W {C with sat:=e.sat,bd:=by omega} f.el c λe b b l f=>d _ _ _ (b.sat.get ((c.pre _).cons.app (pM e))) λc c i f d=>?_;have d:=b.bd;let⟨ty,d,_⟩:=xT D (j+1);rw[d]at i;refine aq (λM=>bR (c) [i6 3,i6 j,i6 0,.nilIface]::(M)) 1 F h a f i 43 [0,0,1,1] 1 [] [(5,.iface 184 (ptr c)),(4,i6 0)] 20 1 [] λd h f d k k k=>cC F f a g d [] (.tuple #[i6 0,.iface 184 (ptr c)]) ?_;exact K e h c ⟨((Sat.BC (A:=[oR c 0 [i6 3,i6 j,i6 0,.nilIface] false]) f.sat.fix).perm (gY (A:=pM e))),b.pv,b.qi,b.fl.cons rfl,b.eH.cons,ω,b.cp,b.ln,b.ti⟩ l ω
def Wn(W:jF E D I t)(l:j<D.V.nl)(hk:(D.V.ly j).k=3)(IH:dV E D I t (j+1)):dV E D I t j:=by
 intro m p s w R c cs C hf m K;rw[show iq D.V j=166 by unfold iq;grind];have F:=W.f p;have Q:=W.hB p;have m:=C.bd;obtain⟨m0,rfl,hs,Hh,Vv⟩:=Gk l hk hf;have hg:=hs.gt j l ω;have m:=W.V.ra j l hk;have m:=hs.now;have m:=hg.nx;have m:0<=((D.V.ly j).b-1)*(D.V.ly j).a:=YE ω ω;have m:((D.V.ly j).b-1)*(D.V.ly j).a<=19*1000:=YT ω ω ω ω;have Dz:IntKind.wrap .i64 ((s.l.gt j).nx-s.l.now)=(s.l.gt j).nx-s.l.now:=aA ω ω;have Qf:IntKind.wrap .i64 ((D.V.ly j).b-1)=(D.V.ly j).b-1:=aA ω ω;have Vw:IntKind.wrap .i64 (((D.V.ly j).b-1)*(D.V.ly j).a)=((D.V.ly j).b-1)*(D.V.ly j).a:=aA ω ω;have m:gR (D.V.ly j) (D.lb j) (s.l.gt j) (s.f j) (s.lq j)=[oR (D.lb j) 5 [i6 (s.l.gt j).nx] true]:=by unfold gR;simp_all
 have hS:=C.open l;rw[m]at hS;have Tx:=C.hk;have hA:s.k.A=D.A:=by rw[Tx]
 have ZG:=AL hf;have Xm:Has (E.me D t::(R++(gX s j++E.O p))) (wF E.T s.k.A t E.c E.ch):=by rw[hA];exact kT
 have u:=C.eH.lay j l;replace hS:=(hS.get ((Xm.cons).app (pM s))).get (((((C.eH.Mi j l hk).pre _).cons.cons).app (pM s)).cons);have back:∀k:World,Sat (E.Ok p) k (pM s++([oR (D.lb j) 5 [i6 (s.l.gt j).nx] true]++(E.me D t::(R++(gX s j++E.O p)))))->w.heap.size<=k.heap.size->Cn E D t p s k R:=λk h w=>by
  have:=C.shut (ea:=s.ea) (ec:=s.ec) (vv:=s.vv) (f':=s.f j) (L':=s.l) l LG.bY (w':=k) (by rw[m,fU];exact h) C.pv.jr (λz=>ω) (λ_=>rfl) w;rw[fU]at this;exact this
 refine cJ func166 hS 60 λJ m m hn a n tN S0 m=>?_;by_cases hc:(s.l.gt j).sm=true/\(s.l.gt j).nx-s.l.now>((D.V.ly j).b-1)*(D.V.ly j).a
 .have m:decide (IntKind.wrap .i64 ((s.l.gt j).nx-s.l.now)>IntKind.wrap .i64 (IntKind.wrap .i64 ((D.V.ly j).b-1)*(D.V.ly j).a))=true:=ξ
  refine TP F Q a tN S0 17 [9,0,0,1,1,0,0,1,2,0,0,1,0,0,1,1,0,0,0,1] 6 [17] [(27,ptr E.T),(26,ptr (D.lb j))] 17 3 [17] [] [(decide (IntKind.wrap .i64 ((s.l.gt j).nx-s.l.now)>IntKind.wrap .i64 (IntKind.wrap .i64 ((D.V.ly j).b-1)*(D.V.ly j).a)),true)] [] [] λa1 k T N zS Dx o9=>ah F a N T 28 167 #[ptr (D.lb j),ptr E.T] λyS g=>rL W (back k T.sat.tail.tail ω) l hs λZ w2 q U o yP=>g _ _ _ U.sat λa2 B2 S2 L tM=>?_;have W4:=U.bd;refine Rb F Q a L S2 5 [] 1 [] [(5,.iface 184 (ptr q)),(4,i6 0)] 23 3 [17] λa3 w3 S3 H YF yO mH=>cC F S3 a n H [] (.tuple #[i6 0,.iface 184 (ptr q)]) ?_;have YR:=Hh hc;rw[<-o]at YR;exact K m0 p Z w3 [oR q 0 [i6 3,i6 j,i6 0,.nilIface] false] (.inl (.tuple #[i6 0,.iface 184 (ptr q)])) (c9 3 j 0) ω ω {U with sat:=S3.sat,bd:=by omega} YR (.inr (.inl ⟨rfl,_,rfl,q,.nilIface,rfl,⟨rfl,0,rfl⟩,rfl⟩)) (λi hi=>by rw[o];rfl) (λi hi=>by rw[o];rfl)
 .have m:decide (IntKind.wrap .i64 ((s.l.gt j).nx-s.l.now)>IntKind.wrap .i64 (IntKind.wrap .i64 ((D.V.ly j).b-1)*(D.V.ly j).a))=false:=by
   rw[Dz,Qf,Vw];cases v:(s.l.gt j).sm with
   |true=>simp_all
   |false=>have:=hg.sm v;simp;omega
  refine aX (λM=>bh 9 (0,0) (i6 (IntKind.wrap .i64 ((if s.l.now>(s.l.gt j).nx then s.l.now else(s.l.gt j).nx)+(D.V.ly j).a))) (M)) 0 F Q a tN S0 24 [9,0,0,1,1,0,0,1,2,0,0,1,0,0,1,1,0,0,0,1,9,0,0,1,1,0,0,1,2,0,0,1,0,0,0,1,9,0,0,1] 4 [17,13] [(49,ptr E.T),(48,ptr (D.lb j)),(0,ptr (D.lb j)),(1,ptr E.T)] 24 2 [17,13] [] [(decide (IntKind.wrap .i64 ((s.l.gt j).nx-s.l.now)>IntKind.wrap .i64 (IntKind.wrap .i64 ((D.V.ly j).b-1)*(D.V.ly j).a)),false)] [] [] λa1 k T N zS Dx o9=>?_;have U4:IntKind.wrap .i64 ((if s.l.now>(s.l.gt j).nx then s.l.now else(s.l.gt j).nx)+(D.V.ly j).a)=(if(s.l.gt j).sm=false\/(s.l.gt j).nx<s.l.now then s.l.now else(s.l.gt j).nx)+(D.V.ly j).a:=by
   have e1:(if s.l.now>(s.l.gt j).nx then s.l.now else(s.l.gt j).nx)=(if(s.l.gt j).sm=false\/(s.l.gt j).nx<s.l.now then s.l.now else(s.l.gt j).nx):=by
    cases v:(s.l.gt j).sm with
    |true=>simp
    |false=>have:=hg.sm v;omega
   rw[<-e1,aA]
  rw[U4]at T;obtain⟨S,FU⟩:∃S:Gt,S={s.l.gt j with sm:=true,nx:=(if(s.l.gt j).sm=false\/(s.l.gt j).nx<s.l.now then s.l.now else(s.l.gt j).nx)+(D.V.ly j).a}:=⟨_,rfl⟩;have d:=Vv hc;rw[<-FU]at d;have m:(if(s.l.gt j).sm=false\/(s.l.gt j).nx<s.l.now then s.l.now else(s.l.gt j).nx)+(D.V.ly j).a=S.nx:=by rw[FU]
  rw[m]at T;have m:Sat (E.Ok p) k (oR (D.lb j) 3 [i6 (D.V.ly j).a,i6 (D.V.ly j).b] false::wF E.T s.k.A t E.c E.ch::(pM s++([oR (D.lb j) 5 [i6 S.nx] true]++(E.me D t::(R++(gX s j++E.O p)))))):=T.sat.cast ρ;have w:=C.shut (ea:=s.ea) (ec:=s.ec) (vv:=s.vv) (f':=s.f j) (L':=s.l.aO j S) l (LG.aO S) (w':=k) (by rw[Bu];unfold gR;rw[sJ hk];exact m.tail.tail) C.pv.jr (λz=>ω) (λ_=>rfl) ω;refine ah F a N T 50 148 #[ptr (D.lb j),ptr E.T,i6 6,i6 0] λyS g=>iU W w hs.el u λZ w2 U o yP=>g _ _ _ (U.sat.get ((u.pre _).cons.app (pM Z))) λa2 B2 S2 L tM=>?_;have W4:=U.bd;replace o:Z.l=(s.l.aO j S).say t j 6 0:=o;rw[<-o]at d;let⟨ty,g,IZ⟩:=xT D (j+1);rw[g]at S2;unfold dV at IH;generalize iq D.V (j+1)=gf at*;refine Rb F Q a L S2 9 [0,0,0,1] 1 [] [(56,ptr E.T),(55,.iface ty (ptr (D.lb (j+1))))] 34 2 [17,13] λa3 w3 S3 H YF yO mH=>GM F a H 57 gf #[ptr (D.lb (j+1)),ptr E.T] (by rcases IZ with ⟨rfl,rfl⟩|⟨rfl,rfl⟩|⟨rfl,rfl⟩|⟨rfl,rfl⟩|⟨rfl,rfl⟩|⟨rfl,rfl⟩|⟨rfl,rfl⟩<;>kernel_rfl) ρ δ S3 λcf O=>IH m0 p Z w3 R cf (c::cs) {U with sat:=S3.sat.tail,bd:=by omega} d ω λg Y s' w' X r b g g V g hr Jc DG=>?_;obtain⟨m1,rfl,k,Hj,A⟩:=CV hk (V.pp W C ZG) g;have g:=V.bd;replace F:=W.f Y;replace Q:=W.hB Y;have P:∀i,i<j->(s'.l.tk t).a i=(s.l.tk t).a i:=λi hi=>(Jc i ω).trans (by rw[o];rfl);have x:∀i,i<j->(s'.l.tk t).q i=(s.l.tk t).q i:=λi hi=>(DG i ω).trans (by rw[o];rfl);rcases hr with ⟨hb,rfl⟩|⟨hb,e,rfl,he⟩|⟨hb,rfl⟩
  .refine O.ret _ _ _ _ _ V.sat λa4 B4 S4 f Bj=>Rb F Q a f S4 5 [] 1 [] [(5,.nilIface),(4,i6 b.n)] 40 2 [17,13] λa5 w5 S5 B Y5 Dw qO=>cC F S5 a n B [] (.tuple #[i6 b.n,.nilIface]) ?_;exact K m1 Y s' w5 X (.inl (.tuple #[i6 b.n,.nilIface])) b ω ω {V with sat:=S5.sat,bd:=by omega} A (.inl ⟨hb,rfl⟩) P x
  .obtain⟨q,rfl⟩:∃q,e=.iface 184 (ptr q):=by
    cases mQ:b.ch with
    |nil=>
     rcases Hj.2.2 with ⟨z,_⟩|⟨_,_,z⟩|⟨z,_⟩
     .omega
     .grind
     .omega
    |cons y ch=>rw[mQ]at he;let⟨q,_,h,_⟩:=he;grind
   refine O.ret _ _ _ _ _ V.sat λa4 B4 S4 f Bj=>Rb F Q a f S4 5 [] 1 [] [(5,.iface 184 (ptr q)),(4,i6 0)] 40 2 [17,13] λa5 w5 S5 B Y5 Dw qO=>cC F S5 a n B [] (.tuple #[i6 0,.iface 184 (ptr q)]) ?_;exact K m1 Y s' w5 X (.inl (.tuple #[i6 0,.iface 184 (ptr q)])) b ω ω {V with sat:=S5.sat,bd:=by omega} A (.inr (.inl ⟨hb,_,rfl,he⟩)) P x
  .obtain⟨a4,t4,rfl,f,a⟩:=O.NO;show E.Ψ Y (G ((J.at a4 t4).raise (je (.iface 182 (i6 b.n)))) (c::cs)) w';rw[raise_at hn.m];refine F.lJ f (by rw[n];rfl) ?_;exact K m1 Y s' w' X (.inr (.iface 182 (i6 b.n))) b ω ω V A (.inr (.inr ⟨hb,rfl⟩)) P x
def Xe(F:aB P H (DX Ok) Ψ){d:eC}(f:iE d=true)(k:a.defers=[])(fn:Func)(j:P.funcs[g]? =some fn)(i:fn.results=#[]){b:aC}{e:Act}{c:eC}{v:ay}(h:Ψ (G {b.at e c with mode:=.panicking (je v)} cs) w):Ψ (G ((baseD g).at a d) ({b.at e c with mode:=.panicking (je v)}::cs)) w:=
 vi F f (F.ctl (λw=>by
  have b:=resultsC_none (P:=P) i a.tmps;simp[G,stepG,unwind,doReturn,Frame.at,baseD,k,j,(b w).1,(b w).2,GStep.after,seen_none]) h)
def Jj(a:j<V.nl)(c:(V.ly j).k=4)(a:1<=(V.ly j).e)(h:Fin V I m (some (t,j,none)) L):∃a,m=a+1/\qm V t L/\
 (((L.gt j).st=1/\L.now-(L.gt j).si<(V.ly j).d)\/((L.gt j).st=2/\(L.gt j).pr=(V.ly j).e)->Fin V I a (some (t,j,some (c9 3 j 0))) (L.say t j 7 0))/\
 (¬(((L.gt j).st=1/\L.now-(L.gt j).si<(V.ly j).d)\/((L.gt j).st=2/\(L.gt j).pr=(V.ly j).e))->Fin V I a (some (t,j+1,none)) ((((L.aM t j).cz j).mark t j).say t j 8 0)):=by
 cases m with
 |zero=>exact h.elim
 |succ m=>
  let⟨a,_,_,d,b⟩:=h;have e:(j=V.nl)=False:=θ
  simp only[LS.step,e,if_false,c,af (show¬(4:Int)=1 by decide),af (show¬(4:Int)=3 by decide),if_true,LS.pass,LS.nV]at b;refine⟨m,rfl,a,λa=>?_,λa=>?_⟩
  .rcases a with a|a
   .simp_all
   .have c:L.aM t j=L:=by unfold LS.aM;simp_all
    simp_all
  .rw[af (λz=>a (.inl z))]at b;rw[af (λz=>?_)]at b
   .exact b
   .by_cases a:(L.gt j).st=1
    .have c:(L.aM t j).gt j=(L.gt j).turn L.now 2:=by unfold LS.aM;rw[sJ a];exact Bu ..
     rw[c]at z;have:(0:Int)=(V.ly j).e:=z.2;omega
    .have c:L.aM t j=L:=by unfold LS.aM;simp_all
     simp_all
def T5(c:(V.ly j).k=4)(a:(L.tk t).p<=j)(h:Fin V I m (some (t,j+1,some b)) L):∃a,m=a+1/\qm V t L/\G5 b/\Fin V I a (some (t,j,some b)) (L.count (V.ly j) t j b):=by
 cases m with
 |zero=>exact h.elim
 |succ m=>
  let⟨_,_,_,a,d⟩:=h;have e:(j+1=(L.tk t).p)=False:=θ
  simp only[LS.step,e,if_false,eM,c,af (show¬(4:Int)=1 by decide),if_true]at d;simp_all
def AV(X A G C:aW):(X++(A++(G++C))).Perm (A++(G++(X++C))):=by
 have h:=fA X (A++G) C;simp_all
abbrev mE(b2 b3 b5 b6 b7 lb T:Nat)(pq:Int)(e:ay)(fl:Bool):List aH:=[bR b7 [.bool fl],oR b6 0 [i6 pq] false,bR b5 [e],oR b3 0 [ptr T] false,oR b2 0 [ptr lb] false]
def Gw(F:aB prog H (DX Ok) Ψ)(I:HB B Ok){a0:Act}{B0 o m l k:Nat}{s:PS}{f:Fb}(hg:Fv y (s.l.gt j) 1000000000000 0)(Qs:(s.l.gt j).st=1->(s.l.tk t).q j≠(s.l.gt j).pd)(h1:Has C (tQ lb wi j s.k.J))(h2:Has C (wF T s.k.A t (s.l.tk t).c Y))(h3:Has C (oR lb 3 [i6 y.a,i6 y.b,i6 y.c,i6 y.d,i6 y.e] false))(hv:Vc Ok s.ea s.l.el s.ec)(hf:qv Ok (s.l.gt j).la f)(yQ:B<=w.heap.size)(g:s.l.el<1000000)(hy:(1<=y.a/\y.a<=20)/\(1<=y.c/\y.c<=100)/\(1<=y.e/\y.e<=9))(hb:G5 b)(he:(b.k≠2/\e=.nilIface)\/(b.k=2/\(∃q,e=.iface 184 (ptr q))/\Yu C e b.ch))(S:St Ok B0 16 [(0,ptr o),(1,ptr l),(2,ptr m),(3,ptr k),(4,ptr b5)] (mE o m b5 l k lb T ((s.l.tk t).q j) e (decide (b.k≠1))++(pM s++(mI lb (s.l.gt j) f++C))) 0 a0 w)(D:a0.defers=[])(B:w.heap.size=B0)(K:∀i h p d a' w' n bs B,iE (pc prog 171 n bs B)=true->a'.defers=[]->Sat Ok w' (mE o m b5 l k lb T ((s.l.tk t).q j) e (decide (b.k≠1))++(pM {s with ea:=i,ec:=h,vv:=p,f:=upd s.f j d,l:=s.l.count y t j b}++(mI lb ((s.l.count y t j b).gt j) d++C)))->Vc Ok i (s.l.count y t j b).el h->qv Ok ((s.l.count y t j b).gt j).la d->w.heap.size<=w'.heap.size->Ψ (G ((baseD 171).at a' (pc prog 171 n bs B)) (cf::cs)) w'):
 Ψ (G ((baseD 171).at a0 (pc prog 171 0 [] [])) (cf::cs)) w:=by
 obtain⟨n,P⟩:∃n,n=su f (s.l.gt j).la.length:=⟨_,rfl⟩;have Q:(b.k≠2/\e=.nilIface)\/(b.k=2/\Yu (mE o m b5 l k lb T ((s.l.tk t).q j) e (decide (b.k≠1))++C) e b.ch):=he.imp id λz=>⟨z.1,z.2.2.up λr e=>e.app _⟩
 simp only[mI,<-P]at S;by_cases hq:(s.l.tk t).q j=(s.l.gt j).pd
 .have O:(s.l.gt j).st=0\/(s.l.gt j).st=2:=by
   rcases hg.st with ⟨z,_⟩|⟨z,_⟩|⟨z,_⟩
   .exact .inl z
   .omega
   omega
  have Na:((s.l.gt j).pd==(s.l.tk t).q j)=true:=by simp[hq]
  rcases he with ⟨e,rfl⟩|⟨e,⟨q,rfl⟩,he⟩
  .refine ZH F I D S 10 [4,0,0,1,12,0,2,1,1,0,0,1,4,0,0,1,3,0,0,1,0,0,0,1,2,0,0,1] 6 [5] [(14,.nilIface),(13,.bool (decide (b.k≠1))),(12,ptr T),(11,ptr lb)] 10 3 [5] [] [((s.l.gt j).pd==(s.l.tk t).q j,true)] [] [] λa1 W J a M N R=>RM F a 15 172 #[ptr lb,ptr T,.bool (decide (b.k≠1)),.nilIface] ρ ρ δ J λyS c=>GO F I (C:=mE o m b5 l k lb T ((s.l.tk t).q j) .nilIface (decide (b.k≠1))++C) (f:=f) hg O ((J.sat.cast ξ).perm (AV ..)) (h1.app _) (h2.app _) (h3.app _) hv hf ω g hq hy hb Q ?_;intro i h p d V h4 u v FO;obtain⟨L,E⟩:∃L,L=mE o m b5 l k lb T ((s.l.tk t).q j) .nilIface (decide (b.k≠1))++(pM {s with ea:=i,ec:=h,vv:=p,f:=upd s.f j d,l:=s.l.count y t j b}++(mI lb ((s.l.count y t j b).gt j) d++C)):=⟨_,rfl⟩;have h5:Sat Ok V L:=by rw[E];exact h4.perm (AV ..).symm
   refine c _ _ _ h5 λa2 B2 S2 A Z=>ZH F I A S2 1 [] 1 [] [] 12 3 [5] [] [] [] [] λa3 U S3 x X yO mH=>K i h p d a3 U _ _ _ ρ x (by have:=S3.sat;simp_all) u v ω
  .refine ZH F I D S 10 [4,0,0,1,12,0,2,1,1,0,0,1,4,0,0,1,3,0,0,1,0,0,0,1,2,0,0,1] 6 [5] [(14,.iface 184 (ptr q)),(13,.bool (decide (b.k≠1))),(12,ptr T),(11,ptr lb)] 10 3 [5] [] [((s.l.gt j).pd==(s.l.tk t).q j,true)] [] [] λa1 W J a M N R=>RM F a 15 172 #[ptr lb,ptr T,.bool (decide (b.k≠1)),.iface 184 (ptr q)] ρ ρ δ J λyS c=>GO F I (C:=mE o m b5 l k lb T ((s.l.tk t).q j) (.iface 184 (ptr q)) (decide (b.k≠1))++C) (f:=f) hg O ((J.sat.cast ξ).perm (AV ..)) (h1.app _) (h2.app _) (h3.app _) hv hf ω g hq hy hb Q ?_;intro i h p d V h4 u v FO;obtain⟨L,E⟩:∃L,L=mE o m b5 l k lb T ((s.l.tk t).q j) (.iface 184 (ptr q)) (decide (b.k≠1))++(pM {s with ea:=i,ec:=h,vv:=p,f:=upd s.f j d,l:=s.l.count y t j b}++(mI lb ((s.l.count y t j b).gt j) d++C)):=⟨_,rfl⟩;have h5:Sat Ok V L:=by rw[E];exact h4.perm (AV ..).symm
   refine c _ _ _ h5 λa2 B2 S2 A Z=>ZH F I A S2 1 [] 1 [] [] 12 3 [5] [] [] [] [] λa3 U S3 x X yO mH=>K i h p d a3 U _ _ _ ρ x (by have:=S3.sat;simp_all) u v ω
 .have c:s.l.count y t j b=s.l:=by unfold LS.count;simp_all
  have Na:((s.l.gt j).pd==(s.l.tk t).q j)=false:=χ
  rw[c]at K;refine ZH F I D S 6 [4,0,0,1,12,0,2,1,1,0,0,1] 4 [5] [] 6 2 [5] [] [((s.l.gt j).pd==(s.l.tk t).q j,false)] [] [] λa1 W J a M N R=>K s.ea s.ec s.vv f a1 W _ _ _ ρ a ?_ hv hf ω;simp only[mI,<-P];exact J.sat
def Jo(x y:Bool)(nn:Int)(e:ay)(b5:Nat):Env:=(bif x then[(41,i6 nn)]else[])++((bif y then[(42,e)]else[])++[(4,i6 nn),(5,ptr b5)])
def Iv(F:aB prog H (DX Ok) Ψ)(Q:HB B Ok)(P:J.kind=.normal){C:Act}{v:Nat}{nn:Int}{o n:aH}{ds:wN}(N:e=.nilIface\/∃q,e=.iface 184 (ptr q))(I:B<=v)(T:St Ok v 43 [(4,i6 nn),(5,ptr b5)] (o::n::bR b5 [e]::M) 0 C w)(y:C.defers=ds)(K:∀g w',St Ok v 43 [(4,i6 nn),(5,ptr b5)] (o::n::bR b5 [e]::M) 0 g w'->g.defers=ds->Ψ (G (J.at g (pc prog 168 49 [false] [4,11,4])) cs) w'):
 Ψ (G (J.at C (pc prog 168 48 [false] [4,11])) cs) w:=by
 have x:mP (pc prog 168 48 [false] [4,11])=true:=ρ
 obtain⟨id,R⟩:∃id,pc prog 168 48 [false] [4,11]=.code (.region id (aL (pc prog 168 48 [false] [4,11])) true)::behind (pc prog 168 48 [false] [4,11]):=by
  unfold mP at x;split at x
  .rename_i id D k h;exact⟨id,by rw[h];rfl⟩
  .cases x
 rw[R];have l:HB v Ok:=λa wr z=>Q a wr ω;have j:J.kind≠.early:=χ
 refine F.K7 aK [[],[],[0],[0,1,2]] (n:=4) ρ ρ (λb a w=>St Ok v 43 (Jo (b 0) (b 1) nn e b5) (o::n::bR b5 [e]::M) 0 a w/\a.defers=ds) ⟨T,y⟩ (λi _ L b a w A O u t rest E r=>?_) (λb a w A s=>?_)
 .let⟨S,p⟩:=A;match i,L with
  |0,_=>
   rw[u]at S;cases d:b 1 with
   |true=>
    rw[d]at S;exact blk F aK l j 1 168 [] [] [] 0 (Jo true true nn e b5) (o::n::bR b5 [e]::M) 0 _ [] [] [] ρ ρ eU eU eU S λg w' m c _ _=>r g w' ⟨by simpa [tick,d]using m,c.trans p⟩
   |false=>
    rw[d]at S;exact blk F aK l j 1 168 [] [] [] 0 (Jo true false nn e b5) (o::n::bR b5 [e]::M) 0 _ [] [] [] ρ ρ eU eU eU S λg w' m c _ _=>r g w' ⟨by simpa [tick,d]using m,c.trans p⟩
  |1,_=>
   rw[u]at S;cases f:b 0 with
   |true=>
    rw[f]at S;exact blk F aK l j 1 168 [(2,(0,0),true)] [] [] 0 (Jo true true nn e b5) (o::n::bR b5 [e]::M) 0 _ [] [] [] ρ ρ eU eU eU S λg w' m c _ _=>r g w' ⟨by simpa [tick,f]using m,c.trans p⟩
   |false=>
    rw[f]at S;exact blk F aK l j 1 168 [(2,(0,0),true)] [] [] 0 (Jo false true nn e b5) (o::n::bR b5 [e]::M) 0 _ [] [] [] ρ ρ eU eU eU S λg w' m c _ _=>r g w' ⟨by simpa [tick,f]using m,c.trans p⟩
  |2,_=>
   have f:=t 0 ψ;rw[f]at S;cases d:b 1 with
   |true=>
    rw[d]at S;exact blk F aK l j 1 168 [] [] [] 0 (Jo true true nn e b5) (o::n::bR b5 [e]::M) 0 _ [] [] [] ρ ρ eU eU eU S λg w' m c _ _=>r g w' ⟨by simpa [tick,d,f]using m,c.trans p⟩
   |false=>
    rw[d]at S;exact blk F aK l j 1 168 [] [] [] 0 (Jo true false nn e b5) (o::n::bR b5 [e]::M) 0 _ [] [] [] ρ ρ eU eU eU S λg w' m c _ _=>r g w' ⟨by simpa [tick,d,f]using m,c.trans p⟩
  |3,_=>
   have f:=t 0 ψ;have d:=t 1 ψ;rw[f,d]at S;rcases N with rfl|⟨q,rfl⟩
   .exact blk F aK l j 1 168 [(2,(0,0),true)] [] [] 0 (Jo true true nn .nilIface b5) (o::n::bR b5 [.nilIface]::M) 0 _ [] [] [] ρ ρ eU eU eU S λg w' m c _ _=>r g w' ⟨by simpa [tick,d,f]using m,c.trans p⟩
   .exact blk F aK l j 1 168 [(2,(0,0),true)] [] [] 0 (Jo true true nn (.iface 184 (ptr q)) b5) (o::n::bR b5 [.iface 184 (ptr q)]::M) 0 _ [] [] [] ρ ρ eU eU eU S λg w' m c _ _=>r g w' ⟨by simpa [tick,d,f]using m,c.trans p⟩
 .let⟨S,p⟩:=A;rw[s 0 ω,s 1 ω]at S;have h:=K a w (S.dB _ rfl) p;rw[show pc prog 168 49 [false] [4,11,4]=.inRegion (aL (pc prog 168 48 [false] [4,11])) []::behind (pc prog 168 48 [false] [4,11]) by kernel_rfl]at h;exact h
end Go.Proofs.YtobagnjnbmgidabGreatDoor
