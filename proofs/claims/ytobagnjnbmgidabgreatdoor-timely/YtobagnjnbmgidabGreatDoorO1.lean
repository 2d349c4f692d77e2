import Derived.Test.YtobagnjnbmgidabGreatDoorP10
set_option linter.all false
set_option maxHeartbeats 0
set_option maxRecDepth 100000
namespace Go.Proofs.YtobagnjnbmgidabGreatDoor
open Go.Conc Go.RowKit Tryz
variable{b:Bk}{V:Ev0}{tc z:Int}{g j k m n o aS u:Nat}{wt:Nat->tU}{s:PS}{C M R:aW}{w w':aj}{P:aC}{v:eX}{q:aN}{S:cO}
variable{U:Bool}{B t:Nat}{J:dh}{T:gi}{Z:Type}{D:PK}{E:TE Z}
def Lr(J:dh)(T:gi)(r:Bool->Value)(P:aC)(S:cO)(w:aj)(s:PS)(C:aW)(n:Nat)(z:Int)(b:Bk):Prop:=
 (¬((s.l.wt n).x=false/\(s.l.wt n).e=false)->∀w',Sat J w' (pM s++(wR s n++C))->w.heap.size<=w'.heap.size->T (G (P.finish (r false)) S) w')/\
 ((s.l.wt n).x=false->(s.l.wt n).e=false->∀i en eb ba bw w',i<=s.q.length->Sat J w' (pM (s.uQ n i en eb ba bw z b)++(wR (s.uQ n i en eb ba bw z b) n++(oR ba 0 [ptr s.k.A] false::oR bw 0 [ptr (s.wb n)] false::C)))->PV J (s.uQ n i en eb ba bw z b) (bA (s.uQ n i en eb ba bw z b))->QI (s.uQ n i en eb ba bw z b)->w.heap.size<=w'.heap.size->T (G (P.finish (r true)) S) w')
def Rp(F:aB prog U (DX J) T)(o:HB B J)(N:z=2\/z=3)(D:nJ (s.l.wt n)=0->(s.l.wt n).x=false/\(s.l.wt n).e=false)(x:n<s.l.wl)(v:(s.l.wt n).t=(u:Int))(E:Sat J w (pM s++(wR s n++C)))(O:Has C (wF (s.T u) s.k.A u tc aS))(L:PV J s (bA s))(Q:QI s)(R:Flat C)(j:B<=w.heap.size)(H:s.q.length<1000000)(j:0<=s.l.now/\s.l.now<1000000000000)(K:Lr J T Value.bool P S w s C n z b):
 T (G (Frame.enter prog 181 #[ptr (s.wb n),i6 z] .normal) (P::S)) w:=by
 have e:=E.get ((O.app (wR s n)).app (pM s));unfold wR at e;rw[v,mY]at e;have B:Flat (lf s n++C):=Flat.app (bO.2 (EG s n)) R;replace E:Sat J w (wF (s.T u) s.k.A u tc aS::(pM s++(oR (s.wb n) 1 [i6 (nJ (s.l.wt n))] true::oR (s.wb n) 0 [ptr (s.T u)] false::(lf s n++C)))):=e;refine cJ func181 E 29 λj j a j d l h I j=>?_;by_cases m:(s.l.wt n).x=false/\(s.l.wt n).e=false
 .have k:nJ (s.l.wt n)=0:=by unfold nJ;simp_all
  rw[k]at I;refine aq (λM=>bR (a+1) [ptr s.k.A]::(bR (a) [ptr (s.wb n)]::(bh 8 (0,0) (i6 z) (M)))) 2 F o d h I 38 [0,0,0,1,9,0,0,1,0,0,0,1,9,0,0,1,0,0,0,1,10,0,0,1,1,0,0,1,0,0,0,1,0,0,0,1,0,0,0,1,3,0,0,1] 5 [6] [(27,.func (Fn.func 182) #[] #[ptr (a+1),ptr a]),(26,i6 s.l.now),(22,ptr s.k.A)] 38 2 [6] λj f p j q t w=>?_;have O:Sat J f (bR (a+1) [ptr s.k.A]::bR a [ptr (s.wb n)]::wF (s.T u) s.k.A u tc aS::(pM s++(oR (s.wb n) 1 [i6 z] true::oR (s.wb n) 0 [ptr (s.T u)] false::(lf s n++C)))):=p.sat.cast ρ;have G:Sat J f (pM s++(oR (s.wb n) 1 [i6 z] true::oR (s.wb n) 0 [ptr (s.T u)] false::oR (a+1) 0 [ptr s.k.A] false::oR a 0 [ptr (s.wb n)] false::(lf s n++C))):=by
   have w:Sat J f (oR (a+1) 0 [ptr s.k.A] false::oR a 0 [ptr (s.wb n)] false::(pM s++(oR (s.wb n) 1 [i6 z] true::oR (s.wb n) 0 [ptr (s.T u)] false::(lf s n++C)))):=Sat.BC (A:=[_,_]) (Sat.yg [_] O.fix);refine w.perm ?_;have:=fA [oR (a+1) 0 [ptr s.k.A] false,oR a 0 [ptr (s.wb n)] false] (pM s++[oR (s.wb n) 1 [i6 z] true,oR (s.wb n) 0 [ptr (s.T u)] false]) (lf s n++C);simp_all
  refine ah F d j p 28 47 #[ptr s.k.A,i6 s.l.now,.func (Fn.func 182) #[] #[ptr (a+1),ptr a]] λj j=>Kq F o s.l.now (.func 182) #[] #[ptr (a+1),ptr a] G L ((((B.cons rfl).cons rfl).cons rfl).cons rfl) ω (by rw[jT];exact H) λi B H w A w G c O=>j _ _ _ G λj j O j G=>?_;rw[jT]at A;refine UF F o d l j O 5 [] 1 [] 4 (.bool true) 44 2 [6] λj O G G=>?_;let⟨R,G⟩:=Q.uQ (en:=B) (eb:=H) (ba:=a+1) (bw:=a) (b:=b) N x A w;refine K.2 m.1 m.2 i B H (a+1) a j A ?_ ?_ R ω
  .have j:wR (s.uQ n i B H (a+1) a z b) n=oR (s.wb n) 1 [i6 z] true::oR (s.wb n) 0 [ptr (s.T u)] false::lf s n:=by
    unfold wR;show oR _ 1 [i6 (nJ ((s.l.fix n z b).wt n))] true::oR _ 0 [ptr (s.T ((s.l.fix n z b).wt n).t.toNat)] false::lf s n=_;simp[LS.fix,LS.put,upd,nJ,v]
   rw[j];refine O.sat.perm (eN _ ?_);have:=fA [oR (a+1) 0 [ptr s.k.A] false,oR a 0 [ptr (s.wb n)] false] (lf s n) C;simp_all
  .rw[G];exact⟨c.jr,c.en,c.eo,c.fb,c.rm,λr g=>by
    rcases ak.1 g with rfl|g
    .simp
    .rcases ak.1 g with rfl|g
     .simp
     .exact L.cx r g,c.bg⟩
 .have k:nJ (s.l.wt n)≠0:=λy=>m (D y);refine oH (λM=>bR (a) [ptr (s.wb n)]::(M)) 1 F o d l h I 19 [0,0,0,1,9,0,0,1] 6 [] 4 (.bool false) 19 3 [] [] [(nJ (s.l.wt n) !=0,true)] [] [] λf p q t=>K.1 m f ?_ ω;unfold wR;rw[v,mY];exact p.sat.tail.tail
def N6(F:aB prog U (DX J) T)(e:HB B J)(j:nJ (s.l.wt n)=0->(s.l.wt n).x=false/\(s.l.wt n).e=false)(f:n<s.l.wl)(o:(s.l.wt n).t=(u:Int))(a:Sat J w (pM s++(wR s n++C)))(q:Has C (wF (s.T u) s.k.A u tc aS))(m:PV J s (bA s))(Q:QI s)(r:Flat C)(c:B<=w.heap.size)(p:s.q.length<1000000)(g:0<=s.l.now/\s.l.now<1000000000000)(K:Lr J T Value.bool P S w s C n 2 b):
 T (G (Frame.enter prog 180 #[ptr (s.wb n)] .normal) (P::S)) w:=by
 refine cJ func180 a 5 λa a a a a d c l k=>Rb F e a c l 7 [] 1 [] [(3,ptr (s.wb n))] 7 1 [] λc c k c l l l=>ah F a c k 4 181 #[ptr (s.wb n),i6 2] λc c=>Rp F e (b:=b) (.inl rfl) j f o k.sat q m Q r ω p g ⟨λh j k g=>c _ _ _ k λt v m b f=>?_,λo k i p q s r j n l j u g=>c _ _ _ l λt v m b f=>?_⟩
 .refine UF F e a d b m 2 [] 1 [] 2 (.bool false) 10 1 [] λc l f g=>K.1 h c l.sat ω
 .refine UF F e a d b m 2 [] 1 [] 2 (.bool true) 10 1 [] λc l f g=>K.2 o k i p q s r c n l.sat j u ω
def LS.H9(L:LS)(t j:Nat)(a b c:Int):(L.say t a b c).mark t j=(L.mark t j).say t a b c:=by
 unfold LS.mark LS.say;simp only[upd,if_true]
section
variable{I:LS->Prop}
def xN(X A R O:aW)(a:aH):(X++(A++(a::(R++O)))).Perm (A++(a::((X++R)++O))):=by
 have h:=fA X (A++[a]) (R++O);simp_all
def Py(X A G R O:aW)(a:aH):(X++(A++(G++(a::(R++O))))).Perm (A++(G++(a::((X++R)++O)))):=by
 have h:=fA X (A++G++[a]) (R++O);simp_all
def Cn.more{p:Z}(C:Cn E D t p s w R)(X:aW)(b:∀r∈X,r.row=none)(h:Sat (E.Ok p) w' (X++(pM s++(E.me D t::(R++E.P p s)))))(a:w.heap.size<=w'.heap.size):Cn E D t p s w' (X++R):=
 ⟨h.perm (xN ..),C.pv,C.qi,by rw[dU];exact Flat.app (bO.2 b) C.fl,C.eH.app X,aT C.bd a,C.cp,C.ln,C.ti⟩
def Cn.Kv{p:Z}(C:Cn E D t p s w R)(c:j<D.V.nl)(X:aW)(d:∀r∈X,r.row=none)(h:Sat (E.Ok p) w' (X++(pM s++(gR (D.V.ly j) (D.lb j) (s.l.gt j) (s.f j) (s.lq j)++(E.me D t::(R++(gX s j++E.O p)))))))(b:w.heap.size<=w'.heap.size):Cn E D t p s w' (X++R):=by
 refine C.more X d (h.perm ?_) b;refine eN X ((pQ ..).symm.trans ?_);refine eN _ (List.Perm.cons _ (eN _ ?_));have a:=Yo s (k:=j) (by rw[C.hk];exact c);rw[C.hk]at a;rw[<-dU];exact(a.append_right _).symm
def CQ(c:s.k=D)(a:j<D.V.nl)(R O:aW)(a:aH):(pM s++(a::(R++(gS s++O)))).Perm (pM s++(gR (D.V.ly j) (D.lb j) (s.l.gt j) (s.f j) (s.lq j)++(a::(R++(gX s j++O))))):=by
 have b:=Yo s (k:=j) ξ;rw[c]at b;refine List.Perm.trans ?_ (pQ ..);refine eN _ (List.Perm.cons _ (eN _ ?_));rw[<-dU];exact b.append_right _
def RZ(W:jF E D I t)(B:j<D.V.nl)(hk:(D.V.ly j).k=4)(IH:dV E D I t (j+1)):dV E D I t j:=by
 intro m p s w R c S C m w K;rw[show iq D.V j=168 by unfold iq;grind];have F:=W.f p;have U:=W.hB p;have w:=C.bd;have hV:=W.V.br j B hk;have ZG:=AL m;obtain⟨m0,rfl,hs,Hh,Vv⟩:=Jj B hk hV.2.2.2.2.1 m;have hg:=hs.gt j B ω;have m:=hs.now;have XA:∀g f q,gR (D.V.ly j) (D.lb j) g f q=mI (D.lb j) g f:=λg f q=>by unfold gR;simp_all
 have f:=C.hk;have hA:∀{d:PS},d.k=D->d.k.A=D.A:=λh=>by rw[h]
 have hJ:∀{d:PS},d.k=D->d.k.J=D.J:=λh=>by rw[h]
 have FT:=C.eH.lay j B;have g:=C.pv.fb j ξ ξ;let⟨ty,YY,IZ⟩:=xT D (j+1);have w:=C.sat;refine cJ func168 w 43 λbb a0 a hn k qh tN S0 P9=>aq (λM=>bR (a+2) [.nilIface]::(bR (a+1) [ptr E.T]::(bR (a) [ptr (D.lb j)]::(M)))) 3 F U k tN S0 12 [2,0,0,1,1,0,0,1] 1 [] [(9,ptr E.T),(8,ptr (D.lb j)),(5,ptr (a+2)),(3,ptr (a+1)),(2,ptr a)] 12 1 [] λw w1 S1 w zS Dx o9=>?_;have C1:Cn E D t p s w1 ([bR (a+2) [.nilIface],oR (a+1) 0 [ptr E.T] false,oR a 0 [ptr (D.lb j)] false]++R):=C.more [bR (a+2) [.nilIface],oR (a+1) 0 [ptr E.T] false,oR a 0 [ptr (D.lb j)] false] (λr A=>by simp at A;grind) (Sat.yg [bR (a+2) [.nilIface],oR (a+1) 0 [ptr E.T] false] (Sat.yg [bR (a+2) [.nilIface]] S1.sat)) ω;have h1:=C1.open B;rw[XA]at h1;refine ah F k w S1 10 170 #[ptr (D.lb j),ptr E.T] λw I7=>MP F U (j:=j) (y:=D.V.ly j) hg h1 (by rw[hJ f];exact(C1.eH.lay j B).pre _|>.cons) (by rw[hA f,C1.cp.hT.2.2];exact kT) ((C1.eH.Lh j B hk).pre _|>.cons) C.pv.jr g ω hs.el m hV.2.2.2.2 (λhc T h2 yP=>?_) (λhc ea ec vv f' T h2 Uz YR yP=>?_)
 .have C2:Cn E D t p s T ([bR (a+2) [.nilIface],oR (a+1) 0 [ptr E.T] false,oR a 0 [ptr (D.lb j)] false]++R):=C1.Kv B [] (λr A=>by cases A) ξ ω;have Nx:=C2.bd;refine I7 _ _ _ (C2.sat.perm (xN ..).symm) λa2 B2 S2 DF tM=>Rb F U k DF S2 4 [] 7 [] [(5,ptr (a+2)),(3,ptr (a+1)),(2,ptr a)] 17 3 [] λa3 w3 S3 CJ YF yO mH=>?_;have C3:Cn E D t p s w3 ([bR (a+2) [.nilIface],oR (a+1) 0 [ptr E.T] false,oR a 0 [ptr (D.lb j)] false]++R):=C.more _ (λr A=>by simp at A;rcases A with rfl|rfl|rfl<;>rfl) S3.sat ω;have tO:∀d w' q,Cn E D t p d w' (oR q 0 [i6 3,i6 j,i6 0,.nilIface] false::([bR (a+2) [.nilIface],oR (a+1) 0 [ptr E.T] false,oR a 0 [ptr (D.lb j)] false]++R))->Sat (E.Ok p) w' [oR a 0 [ptr (D.lb j)] false,oR (a+1) 0 [ptr E.T] false]:=λd w' q H=>by
   refine H.sat.ED λr A=>?_;simp only[ak,bH,or_false]at A;rcases A with rfl|rfl
   .exact Has.in (X:=[oR q 0 [i6 3,i6 j,i6 0,.nilIface] false]) ⟨rfl,2,rfl⟩
   .exact Has.in (X:=[oR q 0 [i6 3,i6 j,i6 0,.nilIface] false]) ⟨rfl,1,rfl⟩
  have VK:Sat (E.Ok p) w3 [oR a 0 [ptr (D.lb j)] false,oR (a+1) 0 [ptr E.T] false]:=by
   refine C3.sat.ED λr A=>?_;simp only[ak,bH,or_false]at A;rcases A with rfl|rfl
   .exact Has.in (X:=[]) ⟨rfl,2,rfl⟩
   .exact Has.in (X:=[]) ⟨rfl,1,rfl⟩
  refine TL W.f aK W.hB k 7 4 [oR a 0 [ptr (D.lb j)] false,oR (a+1) 0 [ptr E.T] false] (Hq [0,0,0,1,1,0,0,1]) [(14,ptr (D.lb j)),(15,ptr E.T)] 16 167 #[ptr (D.lb j),ptr E.T] ρ ρ ρ ρ ρ S3 VK ω λP w4 f Bj g=>rL W (w:=w4) {C3 with sat:=f.perm (xN ..),bd:=by omega} B hs λu w5 q C5 e5 Dw=>?_;have QY:=C5.bd;have Q8:=C5.sat.perm (gM (A:=pM u) (X:=[oR q 0 [i6 3,i6 j,i6 0,.nilIface] false]) (Y:=[bR (a+2) [.nilIface],oR (a+1) 0 [ptr E.T] false,oR a 0 [ptr (D.lb j)] false]));refine g.ret p _ w5 [] [(17,i6 0),(18,.iface 184 (ptr q)),(5,ptr (a+2))] _ QY (tO u w5 q C5) Q8 ρ ρ λa6 w6 f S6 DE YG Hf=>?_;rw[CJ]at DE;refine aq (λM=>bh 0 (0,0) (.iface 184 (ptr q)) (M)) 0 F U k DE S6 3 [0,0,0,1] 1 [] [(4,i6 0),(5,ptr (a+2))] 21 3 [7] λa7 f S7 CI g g g=>G6 F (a:=a7) (N:=43) (E:=[(4,i6 0),(5,ptr (a+2))]) S7.env S7.sat k qh CI [(0,(0,0),true)] (.tuple #[i6 0,.iface 184 (ptr q)]) ρ ρ ?_|>vi F ρ;have XD:=Hh hc;rw[<-e5]at XD;exact K m0 p u f [oR q 0 [i6 3,i6 j,i6 0,.nilIface] false] (.inl (.tuple #[i6 0,.iface 184 (ptr q)])) (c9 3 j 0) ω ω ⟨S7.sat.tail.tail.tail,C5.pv,C5.qi,Flat.OC (X:=[oR q 0 [i6 3,i6 j,i6 0,.nilIface] false]) (Y:=[bR (a+2) [.nilIface],oR (a+1) 0 [ptr E.T] false,oR a 0 [ptr (D.lb j)] false]) C5.fl,C.eH.cons,ω,C5.cp,C5.ln,C5.ti⟩ XD (.inr (.inl ⟨rfl,_,rfl,q,.nilIface,rfl,⟨rfl,0,rfl⟩,rfl⟩)) (λi L=>by rw[e5];rfl) (λi L=>by rw[e5];rfl)
 .have C2:=C1.shut B LG.W0 (by simp_all;omega) Uz (λ_=>YR) (λz=>ω) (w':=T) ω;have N:=Vv hc;obtain⟨V,CG⟩:∃V:PS,V={s with ea:=ea,ec:=ec,vv:=vv,f:=upd s.f j f',l:=(s.l.aM t j).cz j}:=⟨_,rfl⟩;rw[<-CG]at C2;have e2:V.l=(s.l.aM t j).cz j:=by rw[CG]
  rw[<-e2]at N;have ZF:qm D.V t ((V.l.mark t j).say t j 8 0):=by
   cases m0 with
   |zero=>exact N.elim
   |succ m0=>exact N.1
  have f:V.l.el+1<1000000:=ZF.el;have Nx:=C2.bd;refine I7 _ _ _ (C2.sat.perm (xN ..).symm) λa2 B2 S2 DF tM=>Rb F U k DF S2 5 [] 5 [] [(5,ptr (a+2)),(3,ptr (a+1)),(2,ptr a)] 18 2 [] λa3 w3 S3 CJ YF yO mH=>Rb F U k CJ S3 1 [2,0,0,1,1,0,0,1] 1 [4] [(22,ptr E.T),(21,ptr (D.lb j)),(5,ptr (a+2)),(3,ptr (a+1)),(2,ptr a)] 19 2 [4] λf w4 g f Bj m m=>ah F k f g 23 148 #[ptr (D.lb j),ptr E.T,i6 8,i6 0] λf VB=>iU W {C2 with sat:=g.sat.perm (xN ..),bd:=by omega} ω (C1.eH.lay j B) λu w5 C5 e5 Dw=>?_;have QY:=C5.bd;have Q8:=(C5.open B).perm (Py ..).symm;rw[XA]at Q8;obtain⟨f,FV⟩:∃f,f=su (u.f j) (u.l.gt j).la.length:=⟨_,rfl⟩;simp only[mI,<-FV]at Q8;refine VB _ _ _ Q8 λa5 o m f g=>aq (λM=>bR (o+1) [.bool true]::(bR (o) [i6 (u.l.gt j).pd]::(M))) 2 F U k f m 15 [2,0,0,1,10,0,2,1,1,0,0,1,0,0,0,1] 1 [] [(28,.func (Fn.func 171) #[] #[ptr a,ptr o,ptr (a+1),ptr (o+1),ptr (a+2)]),(7,ptr (o+1)),(5,ptr (a+2)),(3,ptr (a+1)),(2,ptr a)] 35 2 [4] λa6 w6 S6 DE YG Hf f=>Wc F hn DE 171 [ptr a,ptr o,ptr (a+1),ptr (o+1),ptr (a+2)] ρ ρ ρ S6 λa7 S7 CI=>aq (λM=>M) 2 F U k CI S7 2 [] 1 [] [(7,ptr (o+1)),(5,ptr (a+2)),(3,ptr (a+1)),(2,ptr a)] 38 2 [4] λa8 w8 S8 Nn f f f=>?_;have Sr:Cn E D t p u w5 R:=C5.drop C.eH;obtain⟨s8,J⟩:∃s8:PS,s8={u with l:=u.l.mark t j}:=⟨_,rfl⟩
  have aav:gX s8 j=gX u j:=K3 (by rw[J]) (λi L=>by rw[J];rfl) (λi L=>ξ) (by rw[J];exact⟨⟨rfl,λ_ _=>rfl⟩,rfl,λi _=>by
   let⟨q,f⟩:=(LG.mark (t:=t) (j:=j) (L:=u.l)).Z6 i;unfold j7;simp_all⟩) (by rw[J])
  have VL:Sat (E.Ok p) w8 (mE a (a+1) (a+2) o (o+1) (D.lb j) E.T (u.l.gt j).pd .nilIface true++(pM s8++(mI (D.lb j) (s8.l.gt j) (s8.f j)++(E.me D t::(R++(gX u j++E.O p)))))):=by
   rw[J];have h:=Sat.yg [bR (o+1) [.bool true]] S8.sat;simp only[mI];rw[FV]at h;exact h
  have Cm:Cn E D t p s8 w8 R:=by
   have h:=Sr.shut (ea:=u.ea) (ec:=u.ec) (vv:=u.vv) (f':=u.f j) B (LG.mark (L:=u.l)) (w':=w8) (by rw[XA,fU];rw[J]at VL;exact VL.tail.tail.tail.tail.tail) Sr.pv.jr (λ_=>Sr.pv.fb j (by rw[Sr.hk];exact B) (by rw[Sr.hk];exact hk)) (λ_=>rfl) ω;rw[fU]at h;simp_all
  have C8:Cn E D t p s8 w8 (mE a (a+1) (a+2) o (o+1) (D.lb j) E.T (u.l.gt j).pd .nilIface true++R):=Cm.Kv B _ (λr A=>by simp at A;rcases A with rfl|rfl|rfl|rfl|rfl<;>rfl) (by rw[XA,aav];exact VL) (az _);have e8:s8.l=(V.l.mark t j).say t j 8 0:=by rw[J,<-LS.H9,<-e5]
  rw[<-e8]at N;have hq8:(s8.l.tk t).q j=(u.l.gt j).pd:=by rw[J];simp[LS.mark,upd]
  have tO:∀l d w' X,Cn E D t l d w' (X++(mE a (a+1) (a+2) o (o+1) (D.lb j) E.T (u.l.gt j).pd .nilIface true++R))->Sat (E.Ok l) w' [oR a 0 [ptr (D.lb j)] false,oR (a+1) 0 [ptr E.T] false,tQ (D.lb j) (.iface ty (ptr (D.lb (j+1)))) j D.J]:=by
   intro l d w' X H;refine H.sat.ED λr A=>?_;simp only[ak,bH,or_false]at A;rcases A with rfl|rfl|rfl
   .exact Has.in ⟨rfl,4,rfl⟩
   .exact Has.in ⟨rfl,3,rfl⟩
   .rw[<-YY];exact Has.in (FT.app _)
  unfold dV at IH;generalize iq D.V (j+1)=gf at*;have f:=C8.sat;replace S8:St (E.Ok p) o 43 _ _ 2 a8 w8:=⟨S8.env,f,S8.sz⟩;refine TL W.f aK W.hB k 11 6 [oR a 0 [ptr (D.lb j)] false,oR (a+1) 0 [ptr E.T] false,tQ (D.lb j) (.iface ty (ptr (D.lb (j+1)))) j D.J] (Hq [0,0,0,1,2,0,0,1,1,0,0,1]) [(34,.iface ty (ptr (D.lb (j+1)))),(35,ptr E.T)] 36 gf #[ptr (D.lb (j+1)),ptr E.T] ρ ρ ρ ρ (by rcases IZ with ⟨rfl,rfl⟩|⟨rfl,rfl⟩|⟨rfl,rfl⟩|⟨rfl,rfl⟩|⟨rfl,rfl⟩|⟨rfl,rfl⟩|⟨rfl,rfl⟩<;>kernel_rfl) S8 (tO p s8 w8 [] C8) ω λP w9 VN Tl VP=>IH m0 p s8 w9 _ P (c::S) {C8 with sat:=VN,bd:=by omega} N ω λf l d w' X r b f f H f A Jc DG=>?_;obtain⟨m1,rfl,FR,Hj,I5⟩:=T5 hk (H.pp W C ZG) f;have Ny:=H.bd;replace F:=W.f l;replace U:=W.hB l;have f:=H.hk;have g:(d.l.tk t).q j=(u.l.gt j).pd:=(DG j ω).trans hq8;rw[<-g]at H tO;have OP:∀i,i<j->((d.l.count (D.V.ly j) t j b).tk t).a i=(s.l.tk t).a i:=λi L=>by
   rw[(LG.count (D.V.ly j) b).ta,Jc i ω,e8,(LG.say (j:=j) ..).ta,LG.mark.ta,e2,LG.W0.ta]
  have Qs:∀i,i<j->((d.l.count (D.V.ly j) t j b).tk t).q i=(s.l.tk t).q i:=λi L=>by
   rw[(LG.count (D.V.ly j) b).tq i ω,DG i ω,e8,(LG.say (j:=j) ..).tq i ω,LG.mark.tq i ω,e2,LG.W0.tq i ω]
  have g:=H.sat.perm (gM (A:=pM d));have m:Cn E D t l d w' (X++R):=⟨g.tail.tail.tail.tail.tail,H.pv,H.qi,H.fl.OC,C.eH.app X,Ny,H.cp,H.ln,H.ti⟩;have p:=m.pv.fb j χ χ;have Q7:=g.perm (eN _ (CQ f B (X++R) (E.O l) (E.me D t)));rw[XA]at Q7
  have Wd:∀(e:ay){P:aC}{g:cO}{a0:Act}{w1:aj}{s:Nat},(b.k≠2/\e=.nilIface)\/(b.k=2/\(∃q,e=.iface 184 (ptr q))/\Yu X e b.ch)->w'.heap.size<=w1.heap.size->St (E.Ok l) s 16 [(0,ptr a),(1,ptr o),(2,ptr (a+1)),(3,ptr (o+1)),(4,ptr (a+2))] (mE a (a+1) (a+2) o (o+1) (D.lb j) E.T ((d.l.tk t).q j) e (decide (b.k≠1))++(pM d++(mI (D.lb j) (d.l.gt j) (d.f j)++(E.me D t::((X++R)++(gX d j++E.O l)))))) 0 a0 w1->a0.defers=[]->w1.heap.size=s->
   (∀V a2 T n bs qs,iE (pc prog 171 n bs qs)=true->a2.defers=[]->Cn E D t l V T (X++R)->V.l=d.l.count (D.V.ly j) t j b->Sat (E.Ok l) T [bR (a+2) [e]]->E.Ψ l (G ((baseD 171).at a2 (pc prog 171 n bs qs)) (P::g)) T)->E.Ψ l (G ((baseD 171).at a0 (pc prog 171 0 [] [])) (P::g)) w1:=by
   intro e P g a0 w1 s he Dx S0 tN P9 KK;refine Gw F U (j:=j) (y:=D.V.ly j) (b:=b) (f:=d.f j) (FR.gt j B ω) (FR.q j B hk) (by rw[hJ f];exact(((C.eH.lay j B).app X).pre _).cons) (by rw[hA f,H.cp.hT.2.2];exact kT) ((((C.eH.Lh j B hk).app X).pre _).cons) m.pv.jr p ω FR.el ⟨hV.1,hV.2.2.1,hV.2.2.2.2⟩ Hj (he.imp id λz=>⟨z.1,z.2.1,z.2.2.up λr A=>((A.pre R).pre _).cons⟩) S0 tN P9 λea ec vv f2 a2 T n bs qs q1 q2 q3 Z q5 f=>?_;have f:=m.shut B (LG.count (D.V.ly j) b) (w':=T) (by rw[XA];exact q3.tail.tail.tail.tail.tail) Z (λ_=>q5) (λz=>ω) ω;exact KK _ a2 T n bs qs q1 q2 f rfl (q3.sub ψ)
  obtain⟨TH,Y⟩:∃TH,TH=su (d.f j) (d.l.gt j).la.length:=⟨_,rfl⟩;simp only[mI,<-Y]at Q7;rcases A with ⟨hb,rfl⟩|⟨hb,e,rfl,he⟩|⟨hb,rfl⟩
  .refine VP.ret l _ w' [] [(4,i6 b.n),(38,.nilIface),(5,ptr (a+2)),(7,ptr (o+1))] _ Ny (tO l d w' X H) Q7 ρ ρ λDq Yf Ls yU O IU IX=>?_;rw[Nn]at O;refine aq (λM=>bh 0 (0,0) (.bool false) (M)) 0 F U k O yU 9 [2,0,0,1,2,0,0,1,0,0,0,1] 1 [] [(4,i6 b.n),(5,ptr (a+2))] 48 2 [4,11] λOX HH x Ns MY aap NP=>?_;have KV:Sat (E.Ok l) HH (mE a (a+1) (a+2) o (o+1) (D.lb j) E.T ((d.l.tk t).q j) .nilIface false++(pM d++(oR (D.lb j) 8 [i6 (d.l.gt j).st,i6 (d.l.gt j).si,i6 (d.l.gt j).pd,i6 (d.l.gt j).pr,TH] true::fR ⟨(d.f j).g,0,none⟩ 1 (d.f j).v ((d.f j).o+(d.f j).c) true::(E.me D t::((X++R)++(gX d j++E.O l)))))):=x.sat.cast ρ;replace x:St (E.Ok l) Ls 43 _ _ 0 OX HH:=⟨x.env,KV,x.sz⟩;refine GR F U k (e:=.nilIface) (nn:=b.n) (b5:=a+2) (.inl rfl) ω (x.dB _ rfl) Ns λa15 TZ R9 Np=>?_;have Ur:TZ.heap.size=Ls:=by have:=R9.sz;omega
   refine Rb F U k Np R9 1 [] 1 [] [(4,i6 b.n),(5,ptr (a+2))] 50 2 [4,11,4] λOW LX v Nq IQ aao V4=>?_;have Q:Sat (E.Ok l) LX (mE a (a+1) (a+2) o (o+1) (D.lb j) E.T ((d.l.tk t).q j) .nilIface (decide (b.k≠1))++(pM d++(mI (D.lb j) (d.l.gt j) (d.f j)++(E.me D t::((X++R)++(gX d j++E.O l)))))):=by
    rw[show decide (b.k≠1)=false by simp[hb]];subst Y;exact v.sat
   refine Mj F ρ Nq Hr f171 func171 _ rfl ρ 16 ρ ⟨v.env,Q,v.sz⟩ λTN Ws Nr=>Wd .nilIface (.inl ⟨ω,rfl⟩) ω Ws Nr ω λV a2 T n bs qs q1 q2 q3 Z q5=>NW F q1 q2 f171 func171 ρ ?_;refine G6 F (a:=⟨OW.tmps,[]⟩) (N:=43) (E:=[(4,i6 b.n),(5,ptr (a+2))]) ⟨v.env.sz,v.env.val⟩ q5 k qh rfl [(0,(0,0),true)] (.tuple #[i6 b.n,.nilIface]) ρ ρ ?_;exact K m1 l V T X _ b ω ω q3 (by rw[Z];exact I5) (.inl ⟨hb,rfl⟩) (λi L=>by rw[Z];exact OP i L) (λi L=>by rw[Z];exact Qs i L)
  .obtain⟨q,rfl⟩:∃q,e=.iface 184 (ptr q):=by
    cases mQ:b.ch with
    |nil=>
     rcases Hj.2.2 with ⟨z,_⟩|⟨_,_,z⟩|⟨z,_⟩
     .omega
     .exact absurd mQ z
     .omega
    |cons y ch=>rw[mQ]at he;let⟨q,_,h,_⟩:=he;exact⟨q,h⟩
   refine VP.ret l _ w' [] [(4,i6 0),(38,(.iface 184 (ptr q))),(5,ptr (a+2)),(7,ptr (o+1))] _ Ny (tO l d w' X H) Q7 ρ ρ λDq Yf Ls yU O IU IX=>?_;rw[Nn]at O;refine aq (λM=>bh 2 (0,0) (.iface 184 (ptr q)) (M)) 0 F U k O yU 9 [2,0,0,1,2,0,0,1,0,0,0,1] 1 [] [(4,i6 0),(5,ptr (a+2))] 48 2 [4,11] λOX HH x Ns MY aap NP=>?_;have KV:Sat (E.Ok l) HH (mE a (a+1) (a+2) o (o+1) (D.lb j) E.T ((d.l.tk t).q j) (.iface 184 (ptr q)) true++(pM d++(oR (D.lb j) 8 [i6 (d.l.gt j).st,i6 (d.l.gt j).si,i6 (d.l.gt j).pd,i6 (d.l.gt j).pr,TH] true::fR ⟨(d.f j).g,0,none⟩ 1 (d.f j).v ((d.f j).o+(d.f j).c) true::(E.me D t::((X++R)++(gX d j++E.O l)))))):=x.sat.cast ρ;replace x:St (E.Ok l) Ls 43 _ _ 0 OX HH:=⟨x.env,KV,x.sz⟩;refine GR F U k (e:=(.iface 184 (ptr q))) (nn:=0) (b5:=a+2) (.inr ⟨q,rfl⟩) ω (x.dB _ rfl) Ns λa15 TZ R9 Np=>?_;have Ur:TZ.heap.size=Ls:=by have:=R9.sz;omega
   refine Rb F U k Np R9 1 [] 1 [] [(4,i6 0),(5,ptr (a+2))] 50 2 [4,11,4] λOW LX v Nq IQ aao V4=>?_;have Q:Sat (E.Ok l) LX (mE a (a+1) (a+2) o (o+1) (D.lb j) E.T ((d.l.tk t).q j) (.iface 184 (ptr q)) (decide (b.k≠1))++(pM d++(mI (D.lb j) (d.l.gt j) (d.f j)++(E.me D t::((X++R)++(gX d j++E.O l)))))):=by
    rw[show decide (b.k≠1)=true by simp[hb]];subst Y;exact v.sat
   refine Mj F ρ Nq Hr f171 func171 _ rfl ρ 16 ρ ⟨v.env,Q,v.sz⟩ λTN Ws Nr=>Wd (.iface 184 (ptr q)) (.inr ⟨hb,⟨q,rfl⟩,he⟩) ω Ws Nr ω λV a2 T n bs qs q1 q2 q3 Z q5=>NW F q1 q2 f171 func171 ρ ?_;refine G6 F (a:=⟨OW.tmps,[]⟩) (N:=43) (E:=[(4,i6 0),(5,ptr (a+2))]) ⟨v.env.sz,v.env.val⟩ q5 k qh rfl [(0,(0,0),true)] (.tuple #[i6 0,(.iface 184 (ptr q))]) ρ ρ ?_;exact K m1 l V T X _ b ω ω q3 (by rw[Z];exact I5) (.inr (.inl ⟨hb,_,rfl,he⟩)) (λi L=>by rw[Z];exact OP i L) (λi L=>by rw[Z];exact Qs i L)
  .obtain⟨a5,t5,rfl,QT,e⟩:=VP.NO;rw[Nn]at QT;show E.Ψ l (G ((bb.at a5 t5).raise (je (.iface 182 (i6 b.n)))) (c::S)) w';rw[raise_at hn.m];have Q:Sat (E.Ok l) w' (mE a (a+1) (a+2) o (o+1) (D.lb j) E.T ((d.l.tk t).q j) .nilIface (decide (b.k≠1))++(pM d++(mI (D.lb j) (d.l.gt j) (d.f j)++(E.me D t::((X++R)++(gX d j++E.O l)))))):=by
    rw[show decide (b.k≠1)=true by simp[hb]];subst Y;exact Q7
   refine Tc F QT Hr f171 func171 _ rfl ρ 16 ρ Q λa a d c a=>Wd .nilIface (.inl ⟨ω,rfl⟩) (az _) d c a λV a2 T n bs qs q1 q2 q3 Z q5=>Xe F q1 q2 f171 func171 ρ ?_;refine F.lJ rfl (by rw[qh];rfl) ?_;exact K m1 l V T X (.inr (.iface 182 (i6 b.n))) b ω ω q3 (by rw[Z];exact I5) (.inr (.inr ⟨hb,rfl⟩)) (λi L=>by rw[Z];exact OP i L) (λi L=>by rw[Z];exact Qs i L)
end
def YJ:∀{n:Nat}{q:aN},yV q n wt k->tJ wt k n=q.find? λw=>!(wt w).x&&!(wt w).e:=by
 intro n q h;have key:∀m,m<=n->(tJ wt k m=none/\∀w,w<m->¬((wt w).l=k/\(wt w).x=false/\(wt w).e=false))\/∃w,tJ wt k m=some w/\w<m/\((wt w).l=k/\(wt w).x=false/\(wt w).e=false)/\∀v,v<w->¬((wt v).l=k/\(wt v).x=false/\(wt v).e=false):=by
  intro m;induction m with
  |zero=>intro _;exact .inl ⟨rfl,λw f=>ω⟩
  |succ m b=>
   intro j;rcases b ω with ⟨c,d⟩|⟨w,c,d,b,i⟩
   .unfold tJ;grind
   .exact .inr ⟨w,by unfold tJ;rw[c],ω,b,i⟩
 rcases key n (az _)with ⟨c,d⟩|⟨w,c,d,b,i⟩
 .rw[c];symm;rw[List.find?_eq_none];intro w f;have:=h.mem w f;simp_all
 .rw[c];symm;rw[List.find?_eq_some_iff_append];refine⟨by simp[b],?_⟩;let⟨f,c,e⟩:=List.append_of_mem (h.all w d b.1 b.2.1 b.2.2);refine⟨f,c,e,λa c=>?_⟩;have g:=h.pN;rw[e,YS]at g;have b:=g.2.2 a c w (bI ..);have j:=(h.mem a ξ).2;grind
def yV.tail(h:yV (m::q) n wt k)(a:¬((wt m).x=false/\(wt m).e=false)):yV q n wt k:=
 ⟨(iG.1 h.pN).2,λw a=>h.mem w (aP _ a),λw d c b a=>by
   rcases ak.1 (h.all w d c b a)with rfl|z
   .simp_all
   .exact z⟩
def yV.uQ{L:LS}(h:yV q L.wl L.wt k)(n:Nat):yV q L.wl (L.dg n).wt k:=by
 have e:∀w,((L.dg n).wt w).l=(L.wt w).l/\(((L.dg n).wt w).x=false->(L.wt w).x=false)/\((L.dg n).wt w).e=(L.wt w).e:=λw=>by
  simp only[LS.dg,LS.fix,LS.put,upd];grind
 exact⟨h.pN,λw a=>⟨(h.mem w a).1,by rw[(e w).1];exact(h.mem w a).2⟩,λw b a a c=>h.all w b ξ ((e w).2.1 a) ξ⟩
def Sat.shift(h:Sat J w (fR ⟨g,o,none⟩ 1 v (n+1) true::M)):Sat J w (fR ⟨g,o+1,none⟩ 1 (λj=>v (j+1)) n true::M):=by
 have i:∀j:Ix,(fR ⟨g,o+1,none⟩ 1 (λj=>v (j+1)) n true).ad j=(fR ⟨g,o,none⟩ 1 v (n+1) true).ad (j.1+1,j.2):=λj=>by
  show((⟨g,o+1,none⟩:Addr).add (j.1*1)).add j.2=((⟨g,o,none⟩:Addr).add ((j.1+1)*1)).add j.2;simp only[ey,lm];simp
 have c:∀j:Ix,(fR ⟨g,o+1,none⟩ 1 (λj=>v (j+1)) n true).has j->(fR ⟨g,o,none⟩ 1 v (n+1) true).has (j.1+1,j.2):=λj a=>⟨YW a.1,a.2⟩
 have d:=sat_iff.1 h;have H:=d.1 _ (bI ..);let⟨h,g⟩:=iG.1 d.2;refine sat_iff.2 ⟨λr d=>?_,iG.2 ⟨λr d k j f a b e=>h r d (.inl rfl) _ f (c j a) b ξ,g⟩⟩;rcases ak.1 d with rfl|d
 .refine⟨λj a=>by rw[i];exact H.val _ (c j a),λj a=>by rw[i];exact H.ok _ (c j a),λ_ j f a b e=>?_,λ_ _ _ z=>by cases z⟩;have:=H.inj rfl _ _ (c j a) (c f b) ξ;grind
 simp_all
def Sat.Md(A:aW)(h:Sat J w (A++(fR ⟨g,o,none⟩ 1 v (n+1) true::M))):Sat J w (A++(fR ⟨g,o+1,none⟩ 1 (λj=>v (j+1)) n true::M)):=
 (h.perm eY).shift.perm eY.symm
def LW{i:Nat}{d:ay}{g:mW}{c a:Nat}:(wX (s.uQ n i d g c a z b) n).Perm (oR c 0 [ptr s.k.A] false::oR a 0 [ptr (s.wb n)] false::wX s n):=by
 have e:((List.range s.l.wl).flatMap λj=>if j=n then[]else wR (s.uQ n i d g c a z b) j)=(List.range s.l.wl).flatMap λj=>if j=n then[]else wR s j:=by
  congr 1;funext j;by_cases e:j=n
  .simp_all
  .rw[af e,af e];unfold wR;show _::_::lf s j=_;simp[LS.fix,LS.put,upd,e]
 unfold wX;show(gA s++(((List.range s.l.wl).flatMap λj=>if j=n then[]else wR (s.uQ n i d g c a z b) j)++(oR s.k.A 2 [i6 s.l.tl] true::(tS s++(oR c 0 [ptr s.k.A] false::oR a 0 [ptr (s.wb n)] false::s.cx))))).Perm _;rw[e];unfold xS;exact j8 λf=>χ
def Ek{r:aH}(h:r∈M)(a:r.wr=false):Has M r:=by
 let⟨i,b⟩:=u9 h;exact⟨a,i,by rw[dF];exact b⟩
def O8(a:u<s.l.tl):Has (tS s) (wF (s.T u) s.k.A u (s.l.tk u).c (s.aS u)):=Ek (mL.2 ⟨u,aZ.2 a,by simp[j7]⟩) rfl
def O7(a:u<s.l.tl):Has (xS s) (wF (s.T u) s.k.A u (s.l.tk u).c (s.aS u)):=((O8 a).pre _).cons
def Gh(a:u<s.l.tl):Has (wX s n) (wF (s.T u) s.k.A u (s.l.tk u).c (s.aS u)):=((O7 a).app _).app _
section
variable{I:LS->Prop}
def II(W:jF E D I t)(hj:j<D.V.nl)(hk:(D.V.ly j).k=5){p:Z}{L0:LS}{w0:aj}(rZ:L0.al<1000000)(U5:0<=L0.now/\L0.now<1000000000000)(htn:-1000000<(L0.gt j).tn/\(L0.gt j).tn<1000000)(K:∀s' a' w' n bs qs,iE (pc prog 178 n bs qs)=true->a'.defers=[]->Cn E D t p s' w' R->s'.l=(match tJ L0.wt j L0.wl with
 |some w=>L0.dg w
 |none=>L0.aO j {L0.gt j with tn:=(L0.gt j).tn-1})->w0.heap.size<=w'.heap.size->E.Ψ p (G ((baseD 178).at a' (pc prog 178 n bs qs)) (P::S)) w'):∀(q:aN)(s:PS)(w:aj)(a0:Act)(B0:Nat),s.lq j=q->s.l=L0->Cn E D t p s w R->w0.heap.size<=w.heap.size->a0.defers=[]->w.heap.size=B0->aR [(0,ptr (D.lb j))] 39 a0->E.Ψ p (G ((baseD 178).at a0 (pc prog 178 11 [] [])) (P::S)) w:=by
 have F:=W.f p;have hB:=W.hB p;intro q;induction q with
 |nil=>
  intro s w a0 B0 hq hl C Zn tN T VV;have QZ:=C.bd;obtain⟨base,c,G⟩:∃base c,su (s.f j) 0=.slice base 0 c:=by unfold su;split<;>exact⟨_,_,rfl⟩
  have hO:=C.open hj;have H:∀g,gR (D.V.ly j) (D.lb j) g (s.f j) (s.lq j)=[oR (D.lb j) 5 [i6 g.tn,.slice base 0 c] true,fR ⟨(s.f j).g,(s.f j).o,none⟩ 1 (s.f j).v (rK (s.f j)) true]:=λg=>by unfold gR;simp_all
  rw[H]at hO;have S0:St (E.Ok p) B0 39 _ _ 0 a0 w:=⟨VV,hO,T⟩;refine qk (λM=>bh 7 (0,0) (i6 (IntKind.wrap .i64 ((s.l.gt j).tn-1))) (M)) 0 F hB tN S0 22 [7,0,1,1,7,0,0,1,7,0,0,1] 5 [] [] 33 2 [] [] [] [] [] λa1 w1 S1 Nt zS Dx o9=>?_;have G:IntKind.wrap .i64 ((s.l.gt j).tn-1)=(s.l.gt j).tn-1:=aA χ χ;rw[G]at S1;have h1:Sat (E.Ok p) w1 (pM s++([oR (D.lb j) 5 [i6 ((s.l.gt j).tn-1),.slice base 0 c] true,fR ⟨(s.f j).g,(s.f j).o,none⟩ 1 (s.f j).v (rK (s.f j)) true]++(E.me D t::(R++(gX s j++E.O p))))):=S1.sat.cast ρ;have C1:=C.shut (ea:=s.ea) (ec:=s.ec) (vv:=s.vv) (f':=s.f j) (L':=s.l.aO j {s.l.gt j with tn:=(s.l.gt j).tn-1}) hj (LG.aO _) (w':=w1) (by rw[r7,H];exact h1) C.pv.jr (λz=>ω) (λ_=>rfl) ω;have y:=YJ (C.ln j hj hk);rw[hq,hl]at y;rw[y]at K;exact K _ a1 w1 33 [false] [] ρ Nt C1 ξ ω
 |cons n q ih=>
  intro s w a0 B0 hq hl C Zn tN T VV;have QZ:=C.bd;have G:=C.hk;have d:=C.pv.rm j ξ ξ;rw[hq]at d;have J:(s.f j).s=true:=by
   cases h:(s.f j).s with
   |true=>rfl
   |false=>have:=(d.nil h).1;cases this
  have hc:=d.len J;have G:=d.val 0 ψ;have G:rK (s.f j)=(s.f j).c:=by unfold rK;grind
  have W:1<=(s.f j).c:=χ
  have hO:=C.open hj;have H:∀g,gR (D.V.ly j) (D.lb j) g (s.f j) (s.lq j)=[oR (D.lb j) 5 [i6 g.tn,.slice (some ⟨(s.f j).g,(s.f j).o,none⟩) (q.length+1) (s.f j).c] true,fR ⟨(s.f j).g,(s.f j).o,none⟩ 1 (s.f j).v (s.f j).c true]:=λg=>by unfold gR;rw[af ω,af ω,sJ hk,hq,G];simp only[gB,su,J,if_true]
  rw[H]at hO;replace hO:=hO.re 8 rfl rfl (λi=>match i with|0=>[ptr (s.wb n)]|i+1=>(s.f j).v (i+1)) (λi hi f f=>by
   grind)
  have S0:St (E.Ok p) B0 39 _ _ 0 a0 w:=⟨VV,hO,T⟩;have f:decide (((q.length+1:Nat):Int)>0)=true:=ψ
  refine ZH F hB tN S0 30 [7,0,1,1,7,0,1,1,8,0,0,101,7,0,1,1] 26 [] [(26,.slice (some (Addr.mk (s.f j).g (s.f j).o none)) (List.length q+1) (s.f j).c),(22,ptr (D.lb j)),(4,ptr (s.wb n)),(0,ptr (D.lb j))] 41 3 [] [] [(decide ((↑(List.length q+1):Int)>0),true)] [(0,List.length q+1)] [(1,(0,(s.f j).c))] λa1 w1 S1 Nt zS Dx o9=>Ub t156 F δ 26 27 ρ ρ δ rfl hc S1 λa2 OR Y=>?_;rw[show jB (pc prog 178 41 (Bo 3) [])=pc prog 178 42 [true] [] by kernel_rfl];obtain⟨ad,NC⟩:∃ad,ad=(if(s.f j).c=1 then(⟨(s.f j).g,(s.f j).o,none⟩:Addr)else(⟨(s.f j).g,(s.f j).o,none⟩:Addr).add 1):=⟨_,rfl⟩;rw[<-NC]at OR;have S2:St (E.Ok p) B0 39 _ _ 0 a2 w1:=⟨OR,S1.sat,S1.sz⟩;replace S2:=S2.dB [(27,.slice (some ad) q.length ((s.f j).c-1)),(22,ptr (D.lb j)),(4,ptr (s.wb n)),(0,ptr (D.lb j))] rfl;replace Y:=Y.trans Nt;have f:w1.heap.size=B0:=ω
  refine qk (λM=>bh 7 (0,1) (.slice (some ad) (List.length q) ((s.f j).c-1)) (M)) 0 F hB Y S2 7 [7,0,1,1] 1 [] [(30,ptr (s.wb n)),(0,ptr (D.lb j))] 49 3 [] [] [] [] [] λf w3 S3 CJ f f f=>?_;have XB:∀(g:Gt)(x:Fb),gR (D.V.ly j) (D.lb j) g x q=[oR (D.lb j) 5 [i6 g.tn,su x q.length] true,fR ⟨x.g,x.o,none⟩ 1 x.v (rK x) true]:=λg x=>by unfold gR;simp_all
  have Q:Sat (E.Ok p) w3 (pM s++([oR (D.lb j) 5 [i6 (s.l.gt j).tn,.slice (some ad) q.length ((s.f j).c-1)] true,fR ⟨(s.f j).g,(s.f j).o,none⟩ 1 (λi=>match i with|0=>[ptr (s.wb n)]|i+1=>(s.f j).v (i+1)) (s.f j).c true]++(E.me D t::(R++(gX s j++E.O p))))):=S3.sat.cast ρ;obtain⟨x,YR,Nk⟩:∃x:Fb,G3 (E.Ok p) s.wb q x/\Sat (E.Ok p) w3 (pM s++(gR (D.V.ly j) (D.lb j) (s.l.gt j) x q++(E.me D t::(R++(gX s j++E.O p))))):=by
   by_cases hc2:(s.f j).c=1
   .have M9:q=[]:=ξ
    subst M9;refine⟨⟨true,(s.f j).g,(s.f j).o,0,λi=>match i with|0=>[ptr (s.wb n)]|i+1=>(s.f j).v (i+1)⟩,⟨(λz=>by cases z),λ_=>az _,λ_=>d.ok J,(λi hi=>by cases hi)⟩,?_⟩;rw[XB];rw[NC,sJ hc2,hc2]at Q;exact Q
   .refine⟨⟨true,(s.f j).g,(s.f j).o+1,(s.f j).c-1,λi=>(s.f j).v (i+1)⟩,⟨(λz=>by cases z),λ_=>χ,λ_=>d.ok J,λi hi=>by have:=d.val (i+1) ξ;simp_all⟩,?_⟩;rw[XB];rw[NC,af hc2]at Q;obtain⟨f,g⟩:∃f,(s.f j).c=f+1:=⟨(s.f j).c-1,ω⟩;have w:rK ⟨true,(s.f j).g,(s.f j).o+1,(s.f j).c-1,λi=>(s.f j).v (i+1)⟩=f:=by unfold rK;simp only[if_true];omega
    rw[w];simp only[su,if_true];rw[g]at Q ⊢;rw[eM]at Q ⊢;have O:=Sat.Md (pM s++[oR (D.lb j) 5 [i6 (s.l.gt j).tn,.slice (some ((⟨(s.f j).g,(s.f j).o,none⟩:Addr).add 1)) q.length f] true]) (by rw[dU];exact Q);rw[dU]at O;exact O
  obtain⟨a,b⟩:∃a:PS,a={s with f:=upd s.f j x,lq:=upd s.lq j q}:=⟨_,rfl⟩
  have hO1:Sat (E.Ok p) w3 (pM a++(E.me D t::(R++(gS a++E.O p)))):=by
   have h1:=Yo a (k:=j) ξ;have f:gX a j=gX s j:=K3 (by rw[b]) (λi _=>by rw[b]) (λi hi=>by rw[b];simp[upd,hi]) (by rw[b];exact⟨⟨rfl,λ_ _=>rfl⟩,rfl,λ_ _=>rfl⟩) (by rw[b]);rw[show a.k=D by simp_all,show a.f j=x by rw[b];simp[upd],show a.lq j=q by rw[b];simp[upd],show a.l=s.l by rw[b],f]at h1;have h2:=(Nk.perm (pQ ..).symm);rw[show pM a=pM s by rw[b];rfl];refine h2.perm (eN _ (List.Perm.cons _ (eN _ ?_)));rw[<-dU];exact(h1.append_right _).symm
  have L:PV (E.Ok p) a (bA a):=by
   have f:bA a=bA s:=by rw[b];rfl
   rw[f,b];refine⟨C.pv.jr,C.pv.en,C.pv.eo,λk B g=>?_,λk B A=>?_,C.pv.cx,C.pv.bg⟩
   .have f:k≠j:=λz=>ξ
    simp only[upd,af f];exact C.pv.fb k B g
   .by_cases e:k=j
    .subst e;simp only[upd,if_true];exact YR
    .simp only[upd,af e];exact C.pv.rm k B A
  have g:QI a:=by rw[b];exact{C.qi with}
  have hL:=C.ln j hj hk;rw[hq]at hL;let⟨f,QC⟩:=hL.mem n (bI ..);let⟨u,_,w⟩:=C.ti.wt n f;have l:TI a:=by rw[b];exact{C.ti with}
  have v:a.l=s.l:=by rw[b]
  have hGq:Gq t s a:=by rw[b];exact⟨rfl,rfl,rfl,rfl,rfl,rfl,rfl,rfl,rfl,λ_ _=>⟨_,rfl⟩,⟨rfl,rfl,rfl⟩,λ_ _=>⟨rfl,rfl⟩,⟨rfl,rfl,rfl⟩,λ_=>rfl⟩
  have B:a.k=D:=ξ
  have N:∀k,k≠j->a.lq k=s.lq k:=λk hk=>by rw[b];simp[upd,hk]
  have f:Flat (R++(gS a++E.O p)):=C.fl.left.app (Flat.app (bO.2 (r9 a λr x=>(L.cx r x).2)) C.fl.right);have B:=og a (i:=n) ξ;have G:(pM a++(E.me D t::(R++(gS a++E.O p)))).Perm (pM a++(wR a n++(E.me D t::(R++(wX a n++E.O p))))):=by
   refine List.Perm.trans (eN _ (List.Perm.cons _ (eN _ ?_))) (pQ ..);rw[<-dU];exact B.append_right _
  have w:a.wb=s.wb:=by rw[b]
  refine RM F CJ 31 180 #[ptr (s.wb n)] ρ ρ δ S3 λf f=>?_;rw[<-w];refine N6 F hB (s:=a) (n:=n) (u:=u) (aS:=a.aS u) (b:=⟨0,0,[]⟩) (C:=E.me D t::(R++(wX a n++E.O p))) (l.ca ξ) ξ ξ (hO1.perm G) ((((Gh ξ).pre _).app _).cons) L g ?_ ω (by have s:=g.len;grind) ξ ⟨λh w O u=>f _ _ _ O λH B4 S4 X s=>?_,λhx he i en eb ba bw w hi O w w u=>f _ _ _ O λH B4 S4 X s=>?_⟩
  .have h5:∀r∈wX a n,r.row=none:=λr x=>r9 a (λr x=>(L.cx r x).2) r (B.mem_iff.2 (gF _ x));exact Flat.cons (C.fl.left.app (Flat.app (bO.2 h5) C.fl.right)) rfl
  .refine ZH F hB X S4 5 [] 5 [] [(0,ptr (D.lb j))] 55 5 [] [] [] [] [] λa5 w5 S5 V Y5 Dw qO=>?_;rw[v]at h;have C1:Cn E D t p a w5 R:=⟨S5.sat.perm G.symm,L,g,C.fl,C.eH,ω,C.cp.gq hGq,λk U A=>by
    rw[v];by_cases e:k=j
    .subst e;rw[show a.lq k=q by rw[b];simp[upd]];exact hL.tail h
    .rw[N k e];exact C.ln k U A,l⟩
   rw[show pc prog 178 55 (Bo 5) []=pc prog 178 11 [] [] by kernel_rfl];exact ih a w5 a5 B4 (by rw[b];simp[upd]) (v.trans hl) C1 ω V ω S5.env
  .refine ZH F hB X S4 2 [] 7 [] [] 52 7 [] [] [] [] [] λa5 w5 S5 V Y5 Dw qO=>?_;rw[v]at hx he;have y:=YJ (C.ln j hj hk);rw[hq,List.find?_cons_of_pos χ,hl]at y;rw[y]at K;obtain⟨m,o⟩:∃m:PS,m=a.uQ n i en eb ba bw 2 ⟨0,0,[]⟩:=⟨_,rfl⟩;have g:m.l=L0.dg n:=χ
   have f:Sat (E.Ok p) w5 (pM m++(E.me D t::(R++(gS m++E.O p)))):=by
    have h1:=og m (i:=n) (by rw[o];show n<a.l.wl;grind);have h2:(wX m n).Perm (oR ba 0 [ptr a.k.A] false::oR bw 0 [ptr (a.wb n)] false::wX a n):=by rw[o];exact LW
    have Q:Sat (E.Ok p) w5 (pM m++(wR m n++(oR ba 0 [ptr a.k.A] false::oR bw 0 [ptr (a.wb n)] false::(E.me D t::(R++(wX a n++E.O p)))))):=by rw[o];exact S5.sat
    refine Q.perm (eN _ ?_);have O:(gS m).Perm (wR m n++(oR ba 0 [ptr a.k.A] false::oR bw 0 [ptr (a.wb n)] false::wX a n)):=h1.trans (h2.append_left _);refine List.Perm.trans ?_ (List.Perm.cons _ (eN _ (O.append_right _))).symm;have h5:=fA (E.me D t::R) (wR m n++[oR ba 0 [ptr a.k.A] false,oR bw 0 [ptr (a.wb n)] false]) (wX a n++E.O p);simpa using h5.symm
   refine K m a5 w5 52 [true,true] [] ρ V ⟨f,χ,χ,C.fl,C.eH,ω,(C.cp.gq hGq).gc (w:=n) (i:=i) (by rw[o];exact⟨rfl,rfl,rfl,rfl,⟨2,_,.inl rfl,rfl⟩,χ,χ,χ,⟨j,χ,χ⟩,⟨rfl,rfl,rfl⟩,rfl⟩),λk U A=>?_,?_⟩ g ω
   .rw[o];show yV (a.lq k) a.l.wl (a.l.dg n).wt k;rw[v];by_cases e:k=j
    .subst e;rw[show a.lq k=q by rw[b];simp[upd]];exact(hL.uQ n).tail λz=>by have:=z.1;simp[LS.dg,LS.fix,LS.put,upd]at this
    .rw[N k e];exact(C.ln k U A).uQ n
   .rw[o];refine l.uQ (.inl rfl) λ_ c a z=>?_;have b:=(l.cm n χ c a z).2.1;let⟨k,y1,a⟩:=b;rw[v,QC]at y1;have:k=j:=ω
    grind
def Be(W:jF E D I t)(h:j<D.V.nl)(q:(D.V.ly j).k=5){p:Z}(C:Cn E D t p s w R)(d:qm D.V t s.l){i:Act}{b:Nat}(k:St (E.Ok p) b 39 [(0,ptr (D.lb j)),(1,ptr E.T)] (pM s++(E.me D t::(R++E.P p s))) 0 i w)(a:i.defers=[])(c:w.heap.size=b)(K:∀b g w' n f c,iE (pc prog 178 n f c)=true->g.defers=[]->Cn E D t p b w' R->b.l=s.l.fC t j->w.heap.size<=w'.heap.size->E.Ψ p (G ((baseD 178).at g (pc prog 178 n f c)) (P::S)) w'):E.Ψ p (G ((baseD 178).at i (pc prog 178 0 [] [])) (P::S)) w:=by
 have F:=W.f p;have o:=W.hB p;have e:=C.bd;refine ZH F o a k 6 [] 1 [] [(8,ptr E.T),(7,ptr (D.lb j)),(0,ptr (D.lb j))] 6 1 [] [] [] [] [] λa a e a k k k=>RM F a 9 148 #[ptr (D.lb j),ptr E.T,i6 14,i6 0] ρ ρ δ e λa a=>iU W {C with sat:=e.sat,bd:=by omega} d.el (C.eH.lay j h) λl e k e m=>a _ _ _ k.sat λa u p a m=>?_;have m:=k.bd;refine ZH F o a p 4 [] 1 [] [(0,ptr (D.lb j))] 11 1 [] [] [] [] [] λt o m a p p p=>?_;have r:=d.gt j h ω;have p:=r.tn;refine II W h q (L0:=l.l) (w0:=w) (by rw[e];exact d.al) (by rw[e];exact d.now) (by rw[e];show -1000000<(s.l.gt j).tn/\(s.l.gt j).tn<1000000;omega) (λb g w' n f c q p j h d=>K b g w' n f c q p j (by rw[h,e];rfl) d) _ l o t u rfl rfl {k with sat:=m.sat,bd:=by omega} ω a ω m.env
end
def Gj{I:LS->Prop}{L:LS}(a:j<V.nl)(b:(V.ly j).k=5)(h:Fin V I m (some (t,j,none)) L):∃a,m=a+1/\qm V t L/\
 ((L.gt j).tn<(V.ly j).a->Fin V I a (some (t,j+1,none)) ((L.aO j {L.gt j with tn:=(L.gt j).tn+1}).say t j 13 0))/\
 (¬(L.gt j).tn<(V.ly j).a->(V.ly j).b=0->Fin V I a (some (t,j,some (c9 3 j 0))) (L.say t j 7 0))/\
 (¬(L.gt j).tn<(V.ly j).a->¬(V.ly j).b=0->(L.tk t).x=false->Fin V I a none ((L.say t j 12 0).wait t j (V.ly j).b true))/\
 (¬(L.gt j).tn<(V.ly j).a->¬(V.ly j).b=0->(L.tk t).x=true->Fin V I a (some (t,j,some (c9 5 j 0))) ((L.say t j 12 0).say t j 16 0)):=by
 cases m with
 |zero=>exact h.elim
 |succ m=>
  let⟨a,_,_,d,c⟩:=h;have e:(j=V.nl)=False:=θ
  simp only[LS.step,e,if_false,b,af (show¬(5:Int)=1 by decide),af (show¬(5:Int)=3 by decide),af (show¬(5:Int)=4 by decide),if_true,LS.take,LS.nV]at c;refine⟨m,rfl,a,λa=>?_,λa b=>?_,λa b d=>?_,λa b d=>?_⟩
  .simp_all
  .simp_all
  .simp_all
  .rw[af a,af b,sJ d]at c;exact c
def CS{I:LS->Prop}{L:LS}(c:(V.ly j).k=5)(a:(L.tk t).p<=j)(h:Fin V I m (some (t,j+1,some b)) L):∃a,m=a+1/\qm V t L/\G5 b/\Fin V I a (some (t,j,some b)) (L.fC t j):=by
 cases m with
 |zero=>exact h.elim
 |succ m=>
  let⟨_,_,_,a,d⟩:=h;have e:(j+1=(L.tk t).p)=False:=θ
  simp only[LS.step,e,if_false,eM,c,af (show¬(5:Int)=1 by decide),af (show¬(5:Int)=4 by decide),if_true]at d;simp_all
section
variable{I:LS->Prop}
def Im(W:jF E D I t)(H:j<D.V.nl)(hk:(D.V.ly j).k=5){p:Z}{c:aC}(C:Cn E D t p s w R)(hf:Fin D.V I m (some (t,j,none)) s.l)(Ts:m<=E.pS p)(K:∀X p' J w' z,X<m->X<=E.pS p'->Cn E D t p' J w' R->J.l.el<1000000->((z=3/\Fin D.V I X (some (t,j,some (c9 5 j 0))) (J.l.say t j 16 0))\/(z=2/\Fin D.V I X (some (t,j+1,none)) (J.l.say t j 13 0))\/(z=1/\qm D.V t J.l/\Fin D.V I X (some (t,j,some (c9 3 j 0))) (J.l.say t j 7 0)))->(J.l.tk t).a=(s.l.tk t).a->(J.l.tk t).q=(s.l.tk t).q->E.Ψ p' (G (c.finish (i6 z)) S) w'):
 E.Ψ p (G (Frame.enter prog 179 #[ptr (D.lb j),ptr E.T] .normal) (c::S)) w:=by
 have F:=W.f p;have Y:=W.hB p;have c:=C.bd;obtain⟨m0,rfl,hs,I5,YR,Nk,U⟩:=Gj H hk hf;have m:=hs.gt j H ω;have hV:=W.V.ro j H hk;have c:=m.tn;have FT:=C.eH.lay j H;have N:∀g f q,gR (D.V.ly j) (D.lb j) g f q=[oR (D.lb j) 5 [i6 g.tn,su f q.length] true,fR ⟨f.g,f.o,none⟩ 1 f.v (rK f) true]:=λg f q=>by unfold gR;simp_all
 have hO:=C.open H;rw[N]at hO;obtain⟨fv,FV⟩:∃fv,fv=su (s.f j) (s.lq j).length:=⟨_,rfl⟩;rw[<-FV]at hO;have c:=hO.get (r:=oR (D.lb j) 3 [i6 (D.V.ly j).a,i6 (D.V.ly j).b] false) (((C.eH.Kj j H hk).pre _).cons.cons.cons.app (pM s));refine cJ func179 c 52 λc c c c r qh f S0 c=>?_;by_cases G:(s.l.gt j).tn<(D.V.ly j).a
 .refine oH (λM=>bh 8 (0,0) (i6 (IntKind.wrap .i64 ((s.l.gt j).tn+1))) (M)) 0 F Y r qh f S0 25 [8,0,0,1,0,0,0,1,8,0,0,1,8,0,0,1] 6 [8] 4 (i6 2) 25 3 [8] [] [(decide ((s.l.gt j).tn<(D.V.ly j).a),true)] [] [] λc S1 m q=>?_;have Dz:IntKind.wrap .i64 ((s.l.gt j).tn+1)=(s.l.gt j).tn+1:=aA ω ω;rw[Dz]at S1;have L:Sat (E.Ok p) c (oR (D.lb j) 3 [i6 (D.V.ly j).a,i6 (D.V.ly j).b] false::(pM s++([oR (D.lb j) 5 [i6 ((s.l.gt j).tn+1),fv] true,fR ⟨(s.f j).g,(s.f j).o,none⟩ 1 (s.f j).v (rK (s.f j)) true]++(E.me D t::(R++(gX s j++E.O p)))))):=S1.sat.cast ρ;have C1:=C.shut (ea:=s.ea) (ec:=s.ec) (vv:=s.vv) (f':=s.f j) (L':=s.l.aO j {s.l.gt j with tn:=(s.l.gt j).tn+1}) H (LG.aO _) (w':=c) (by rw[r7,N,<-FV];exact L.tail) C.pv.jr (λz=>ω) (λ_=>rfl) ω;exact K m0 p _ c 2 ω ω C1 hs.el (.inr (.inl ⟨rfl,I5 G⟩)) rfl rfl
 .by_cases h0:(D.V.ly j).b=0
  .rw[h0]at S0;refine ZI F Y r qh f S0 25 [8,0,0,1,0,0,0,2] 28 [8] 4 (i6 1) 25 6 [8] [] [(decide ((s.l.gt j).tn<(D.V.ly j).a),false)] [] [] λc S1 m q=>?_;have C1:=C.shut (ea:=s.ea) (ec:=s.ec) (vv:=s.vv) (f':=s.f j) (L':=s.l) H LG.bY (w':=c) (by rw[N,<-FV,fU];exact S1.sat.tail) C.pv.jr (λz=>ω) (λ_=>rfl) ω;exact K m0 p _ c 1 ω ω C1 hs.el (.inr (.inr ⟨rfl,hs,YR G h0⟩)) rfl rfl
  .refine TP F Y r f S0 28 [8,0,0,1,0,0,0,2] 16 [8] [(30,ptr E.T),(29,ptr (D.lb j)),(0,ptr (D.lb j)),(1,ptr E.T)] 28 4 [8] [] [((D.V.ly j).b==0,false),(decide ((s.l.gt j).tn<(D.V.ly j).a),false)] [] [] λf c S1 f m q m=>?_;have C1:=C.shut (ea:=s.ea) (ec:=s.ec) (vv:=s.vv) (f':=s.f j) (L':=s.l) H LG.bY (w':=c) (by rw[N,<-FV,fU];exact S1.sat.tail) C.pv.jr (λz=>ω) (λ_=>rfl) ω;rw[fU]at C1;refine ah F r f S1 31 148 #[ptr (D.lb j),ptr E.T,i6 12,i6 0] λc c=>iU W C1 hs.el FT λn w2 C2 O f=>c _ _ _ C2.sat λa2 B2 S2 f c=>?_;have c:=C2.bd;replace O:n.l=s.l.say t j 12 0:=O;have c:=C2.hk;have C:0<=n.l.now/\n.l.now<1000000000000:=by rw[O];exact hs.now
   have rZ:n.l.al<1000000:=by rw[O];exact hs.al
   have c:(n.l.tk t).x=(s.l.tk t).x:=by rw[O];rfl
   let⟨cv,q,ev,g,o,nn,bv,A,tc,ch,m⟩:=vq C2.cp.hT.1;have hm:=C2.mine;rw[m,c]at hm;have back:∀w',Sat (E.Ok p) w' (pM n++([dO E.T cv q (s.l.tk t).x ev,fR ⟨g,o,none⟩ 1 bv nn true,wF E.T A t tc ch]++(E.me D t::(R++(tX n t++E.O p)))))->w2.heap.size<=w'.heap.size->Cn E D t p n w' R:=λw' h g=>{C2 with sat:=Cn.N3 C2.tn ξ,bd:=by omega}
   replace S2:St (E.Ok p) B2 52 _ _ 0 a2 w2:=⟨S2.env,hm.get (r:=oR (D.lb j) 3 [i6 (D.V.ly j).a,i6 (D.V.ly j).b] false) (((((C2.eH.Kj j H hk).pre _).cons).app _).app (pM n)),S2.sz⟩
   by_cases hx:(s.l.tk t).x=true
   .rw[hx]at S2 back;have U:=U G h0 hx;rw[<-O]at U;refine UF F Y r qh f S2 25 [8,0,2,1] 7 [] 4 (i6 3) 41 12 [8] λg m o q=>K m0 p n g 3 ω ω (back g m.sat.tail ω) (kL U) (.inl ⟨rfl,U⟩) (by rw[O];rfl) (by rw[O];rfl)
   replace hx:(s.l.tk t).x=false:=ξ
   rw[hx]at S2 back;have QO:=Nk G h0 hx;rw[<-O]at QO;refine Rb F Y r f S2 29 [8,0,2,1,0,0,1,1] 5 [] [(38,i6 (D.V.ly j).b),(34,ptr E.T),(0,ptr (D.lb j))] 45 8 [8] λf g m f o q o=>?_;have C3:=back g m.sat.tail ω;refine ah F r f m 39 161 #[ptr E.T,i6 (D.V.ly j).b] λf Nv=>lG W C3 rZ C H ⟨hV.2.1,ω⟩ λi x g m w4 h4 v Q4 T4 hi f c=>?_;obtain⟨d,B⟩:∃d:PS,d=n.cB t j (D.V.ly j).b i x g m true:=⟨_,rfl⟩;rw[<-B]at h4 v Q4 T4;have Q:d.k=D:=ξ
   have aax:d.f=n.f:=by rw[B]
   have Qn:d.lq=n.lq:=by rw[B]
   have P:=v.rm j ξ ξ;obtain⟨base,Bl,V⟩:∃base,su (d.f j) (d.lq j).length=.slice base (d.lq j).length (d.f j).c/\((base=some ⟨(d.f j).g,(d.f j).o+0,none⟩/\(d.f j).s=true)\/(base=none/\(d.f j).s=false/\d.lq j=[]/\(d.f j).c=0)):=by
    cases hfs:(d.f j).s with
    |true=>exact⟨_,by unfold su;simp_all,.inl ⟨rfl,rfl⟩⟩
    |false=>
     let⟨z1,z2,z3⟩:=P.nil hfs;exact⟨none,by unfold su;simp_all,.inr ⟨rfl,rfl,z1,z3⟩⟩
   have h5:Sat (E.Ok p) w4 (pM d++([oR (D.lb j) 5 [i6 (d.l.gt j).tn,.slice base (d.lq j).length (d.f j).c] true,fR ⟨(d.f j).g,(d.f j).o,none⟩ 1 (d.f j).v (rK (d.f j)) true]++(E.me D t::(R++(gX d j++E.O p))))):=by
    have L:=Yo d (k:=j) ξ;rw[Q,N,Bl]at L;refine(h4.perm ?_).perm (pQ ..);refine eN _ (List.Perm.cons _ (eN _ ?_));rw[<-dU];exact L.append_right _
   refine Nv _ _ _ h5 λc B4 g c f=>aq (λM=>bR (B4) [ptr x]::(M)) 1 F Y r c g 11 [7,0,1,1] 1 [] [(46,.slice (some ⟨B4,0,none⟩) 1 1),(44,.slice base (List.length (d.lq j)) (d.f j).c),(40,ptr (D.lb j)),(5,ptr x)] 57 8 [8] λc c m Yv c c c=>?_;have hL:=C2.ln j H hk;have c:(d.lq j).length<1000000:=by
    have h6:=oX (hL.pN.imp fun{a b} h=>iS h) λw hw=>(hL.mem w hw).1;have:n.l.wl<1000000:=by rw[O];exact hs.wl
    grind
   have g:(d.lq j).length<=(d.f j).c:=by
    rcases V with z|z
    .exact P.len z.2
    simp_all
   have f:0+(d.f j).c<=rK (d.f j)/\(0<(d.f j).c->rK (d.f j)=0+(d.f j).c):=by
    unfold rK;rcases V with z|z
    .rw[sJ z.2];omega
    omega
   refine Wo t156 δ F Y r 44 46 47 9 0 (g:=(d.f j).g) (o0:=(d.f j).o) (o:=0) (base:=base) (len:=(d.lq j).length) (cap:=(d.f j).c) (y:=ptr x) (v:=(d.f j).v) (n:=rK (d.f j)) ρ ρ δ rfl rfl (V.imp (λz=>z.1) λz=>⟨z.1,rfl,z.2.2.2⟩) rfl f rfl rfl (λf z=>?_) g c ω ω m λg4 b4 c v4 c4 a6 w6 f f h6 z1 z2 z3 f z5 TF DE=>?_
   .rcases V with y|y
    .refine⟨?_,P.ok y.2⟩;have h7:=m.sat.val 9 _ rfl (0,0) ⟨by show 0<rK (d.f j);unfold rK;grind,aD⟩;exact au h7
    simp_all
   obtain rfl:c=0:=ω
   rw[show jB (pc prog 179 57 (Bo 8) [8])=pc prog 179 58 [false,false,false] [8] by kernel_rfl];have S6:St (E.Ok p) w6.heap.size 52 _ _ 0 a6 w6:=⟨TF,h6,rfl⟩;replace S6:=S6.dB [(47,.slice (some ⟨g4,b4,none⟩) ((d.lq j).length+1) c4),(40,ptr (D.lb j)),(5,ptr x)] rfl;replace DE:=DE.trans Yv;generalize YG:w6.heap.size=c at S6;refine aq (λM=>bh 8 (0,1) (.slice (some (Addr.mk g4 b4 none)) (List.length (d.lq j)+1) c4) (M)) 0 F Y r DE S6 7 [8,0,1,1] 1 [] [(50,ptr x)] 65 8 [8] λc w7 S7 c f f f=>GM F r c 51 152 #[ptr x] ρ ρ δ S7 λRU VA=>?_;obtain⟨u,l⟩:∃u:PS,u={d with f:=upd d.f j ⟨true,g4,b4,c4,v4⟩,lq:=upd d.lq j (d.lq j++[n.l.wl])}:=⟨_,rfl⟩;have Q0:u.l=n.l.wait t j (D.V.ly j).b true:=χ
   have m:JL t n u j (D.V.ly j).b i x ⟨0,0,[]⟩ true:=by rw[l,B];exact⟨rfl,rfl,rfl,rfl,(E5 ..).symm,⟨rfl,rfl,rfl⟩,λj H=>af (iS H)⟩
   have Vu:u.f j=⟨true,g4,b4,c4,v4⟩:=by rw[l];simp[upd]
   have Qq:u.lq j=d.lq j++[n.l.wl]:=by rw[l];simp[upd]
   have T:∀k,k≠j->u.f k=d.f k/\u.lq k=d.lq k:=λk h=>by rw[l];simp[upd,h]
   have f:u.k=D:=χ
   have h7:Sat (E.Ok p) w7 (bR B4 [ptr x]::(pM d++([oR (D.lb j) 5 [i6 (d.l.gt j).tn,.slice (some ⟨g4,b4,none⟩) ((d.lq j).length+1) c4] true,fR ⟨g4,b4,none⟩ 1 v4 (0+c4) true]++(E.me D t::(R++(gX d j++E.O p)))))):=S7.sat.cast ρ;have c:Sat (E.Ok p) w7 (pM u++(E.me D t::(R++(gS u++E.O p)))):=by
    have L:=Yo u (k:=j) χ;have g:gX u j=gX d j:=K3 (by rw[l]) (λi _=>by rw[l]) T (by rw[l];exact⟨⟨rfl,λ_ _=>rfl⟩,rfl,λ_ _=>rfl⟩) (by rw[l]);rw[f,N,Vu,Qq,g,show u.l.gt j=d.l.gt j by rw[l]]at L;have g:rK ⟨true,g4,b4,c4,v4⟩=0+c4:=by unfold rK;simp only[if_true];omega
    rw[g]at L;simp only[su,if_true,YA,List.length_singleton]at L;rw[show pM u=pM d by rw[l];rfl];refine(h7.tail.perm (pQ ..).symm).perm ?_;refine eN _ (List.Perm.cons _ (eN _ ?_));rw[<-dU];exact(L.append_right _).symm
   have g:∀k,k<D.V.nl->(D.V.ly k).k=5->(d.f k).s=true->(d.f k).g<x:=λk L h2 h3=>by
    rw[aax]at h3 ⊢;have:=C3.row L h2 h3;omega
   refine W.wait p n u u w7 i x j (D.V.ly j).b ⟨0,0,[]⟩ true RU _ R m0 C3.cp C3.ti ω (λ_=>H) m (.inl rfl) (by rw[l,B];exact C3.cp.JN) c ?_ ?_ (by rw[l];exact{T4 with}) (λk Q h5=>?_) (λk Q c h6=>?_) (λi hi h6=>?_) C3.fl C3.eH ω χ ω λp' J c X z c Vh C' f1 f2 f3 f4 f5 f6=>VA.ret _ _ _ _ _ C'.sat λc c S8 Nn c=>?_
   .have c:bA u=bA d:=by rw[l];rfl
    rw[c];refine⟨by rw[l];exact v.jr,by rw[l];exact v.en,by rw[l];exact v.eo,λk V5 Ng=>?_,λk V5 Tu=>?_,by rw[l];exact v.cx,by rw[l];exact v.bg⟩
    .have c:k≠j:=λe=>χ
     rw[(T k c).1,show u.l.gt=d.l.gt by rw[l]];exact v.fb k χ χ
    .rw[show u.wb=d.wb by rw[l]];rw[f]at V5 Tu;by_cases e:k=j
     .subst e;rw[Vu,Qq];refine⟨(λz=>by cases z),λ_=>by simpa using z5,λ_ ad wr hb=>?_,λi hi=>?_⟩
      .have LM:ad.block=g4:=hb;rcases z3 with z|z
       .rcases V with y|y
        .rw[y.1]at z;cases z;exact P.ok y.2 ad wr LM
        grind
       grind
      .have c:i<(d.lq k).length+1:=by simpa using hi
       show(v4 i).getD 0 undef=_;by_cases e:i=(d.lq k).length
       .subst e;have:=z2;rw[bK]at this;rw[this];simp[B,upd]
       .have c:i<(d.lq k).length:=ω
        have:=z1 i c;rw[bK]at this;rw[this,P.val i c];have f:(d.lq k++[n.l.wl]).getD i 0=(d.lq k).getD i 0:=by simp[List.getD,nO c]
        rw[f]
     .rw[(T k e).1,(T k e).2];exact v.rm k χ χ
   .rw[l];exact{Q4 with}
   .rw[Q0];have c:(n.l.wait t j (D.V.ly j).b true).wt=upd n.l.wt n.l.wl ⟨t,j,false,false,⟨0,0,[]⟩,0,0⟩:=rfl;have d:(n.l.wait t j (D.V.ly j).b true).wl=n.l.wl+1:=rfl;rw[d,c];by_cases e:k=j
    .subst e;rw[Qq,Qn];refine⟨?_,λw hw=>?_,λw hw hl L h2=>?_⟩
     .rw[YS];exact⟨hL.pN,ψ,λa ha b hb=>by simp at hb;subst hb;exact(hL.mem a ha).1⟩
     .rcases dJ.1 hw with z|z
      .have:=hL.mem w z;exact⟨ω,by simp only[upd];rw[af ω];exact this.2⟩
      .simp at z;subst z;exact⟨ω,by simp[upd]⟩
     .by_cases e:w=n.l.wl
      .simp[e]
      .simp only[upd,af e]at hl L h2;exact gU _ (hL.all w ω hl L h2)
    .rw[(T k e).2,Qn];exact(C2.ln k Q h5).cB χ
   .by_cases e:k=j
    .grind
    grind
   .have a:u.bf=n.bf:=by rw[l,B]
    rw[a]at h6 ⊢;have:=rG C3.sat C3.Ej (j:=i) (by rw[Q0]at hi;exact hi) h6;omega
   .have a:=C'.bd;replace F:=W.f p';replace Y:=W.hB p';have hfo:(z=3/\Fin D.V I X (some (t,j,some (c9 5 j 0))) (J.l.say t j 16 0))\/(z=2/\Fin D.V I X (some (t,j+1,none)) (J.l.say t j 13 0))\/(z=1/\qm D.V t J.l/\Fin D.V I X (some (t,j,some (c9 3 j 0))) (J.l.say t j 7 0)):=by
     rcases f1.2 with ⟨_,z,_⟩|⟨k,Q,Ng,Nj⟩
     .omega
     .rw[f2]at Ng;have:k=j:=ω
      subst this;rcases Nj with z|z|z|z|z|z
      .grind
      .omega
      .exact .inr (.inr ⟨z.2.1,f1.1,z.2.2⟩)
      .grind
      .omega
      .omega
    refine UF F Y r qh Nn S8 2 [] 1 [] 4 (i6 z) 68 8 [8] λa c b b=>K X p' J a z ω Vh {C' with sat:=c.sat,bd:=by omega} f1.1.el hfo (by rw[f4,O];rfl) (by rw[f6,O];rfl)
end
section
variable{I:LS->Prop}
def Mm(W:jF E D I t)(hj:j<D.V.nl)(hk:(D.V.ly j).k=5)(IH:dV E D I t (j+1)):dV E D I t j:=by
 intro m p s w R c S C hf w K;rw[show iq D.V j=177 by unfold iq;grind];have ZG:=AL hf;have F:=W.f p;have x:=W.hB p;have m:=C.bd;have m:=C.sat;refine cJ func177 m 43 λbb m m hn a B m S0 p=>Rb F x a m S0 10 [] 1 [] [(7,ptr E.T),(6,ptr (D.lb j)),(0,ptr (D.lb j)),(1,ptr E.T)] 10 1 [] λm m p m zS Dx o9=>GM F a m 8 179 #[ptr (D.lb j),ptr E.T] ρ ρ δ p λm m=>Im W hj hk {C with sat:=p.sat,bd:=by omega} hf w λm1 p1 O w2 z p T C1 Ty p Y Q=>m.ret _ _ _ _ _ C1.sat λa2 m S2 V m=>?_;have m:=C1.bd;replace F:=W.f p1;replace x:=W.hB p1;have J:=C1.eH.lay j hj;rcases p with ⟨rfl,f⟩|⟨rfl,f⟩|⟨rfl,FR,f⟩
 .refine Rb F x a V S2 20 [] 29 [] [(23,ptr E.T),(22,ptr (D.lb j))] 31 6 [] λa3 w3 M u YF yO mH=>ah F a u M 24 159 #[ptr (D.lb j),ptr E.T] λIb g=>wv W {C1 with sat:=M.sat,bd:=by omega} hj Ty λN w4 q y k FO=>g _ _ _ y.sat λa4 B4 S4 o Bj=>?_;have L:=y.bd;refine Rb F x a o S4 5 [] 1 [] [(5,.iface 184 (ptr q)),(4,i6 0)] 37 6 [] λa5 w5 Z l Y5 Dw qO=>cC F Z a B l [] (.tuple #[i6 0,.iface 184 (ptr q)]) ?_;rw[<-k]at f;exact K m1 p1 N w5 [oR q 0 [i6 5,i6 j,i6 0,.nilIface] false] (.inl (.tuple #[i6 0,.iface 184 (ptr q)])) (c9 5 j 0) ω T {y with sat:=Z.sat,bd:=by omega} f (.inr (.inl ⟨rfl,_,rfl,q,.nilIface,rfl,⟨rfl,0,rfl⟩,rfl⟩)) (λi A=>by rw[k];show(O.l.tk t).a i=_;rw[Y]) (λi A=>by rw[k];show(O.l.tk t).q i=_;rw[Q])
 .refine Rb F x a V S2 22 [] 21 [] [(30,ptr E.T),(29,ptr (D.lb j)),(0,ptr (D.lb j)),(1,ptr E.T)] 33 4 [] λa3 w3 M u YF yO mH=>ah F a u M 31 148 #[ptr (D.lb j),ptr E.T,i6 13,i6 0] λIb g=>iU W {C1 with sat:=M.sat,bd:=by omega} Ty J λN w4 y k FO=>g _ _ _ (y.sat.get ((J.pre _).cons.app (pM N))) λa4 B4 S4 o Bj=>?_;have L:=y.bd;replace k:N.l=O.l.say t j 13 0:=k;rw[<-k]at f;let⟨ty,m,IZ⟩:=xT D (j+1);rw[m]at S4;unfold dV at IH;generalize iq D.V (j+1)=gf at*;refine Rb F x a o S4 5 [] 1 [] [(33,ptr E.T),(32,ptr (D.lb j)),(0,ptr (D.lb j)),(1,ptr E.T)] 39 4 [] λa5 w5 Z l Y5 Dw qO=>dfy F hn l 178 [ptr (D.lb j),ptr E.T] ρ ρ ρ Z λm d m d XG=>Rb F x a d m 9 [0,0,0,1] 1 [] [(39,ptr E.T),(38,.iface ty (ptr (D.lb (j+1))))] 49 4 [] λd w7 S7 d m m m=>GM F a d 40 gf #[ptr (D.lb (j+1)),ptr E.T] (by rcases IZ with ⟨rfl,rfl⟩|⟨rfl,rfl⟩|⟨rfl,rfl⟩|⟨rfl,rfl⟩|⟨rfl,rfl⟩|⟨rfl,rfl⟩|⟨rfl,rfl⟩<;>kernel_rfl) ρ δ S7 λP XK=>IH m1 p1 N w7 R P (c::S) {y with sat:=S7.sat.tail,bd:=by omega} f T λd p' s' w' X r b d d C' d hr Jc DG=>?_;obtain⟨m2,rfl,CG,m,m⟩:=CS hk (C'.pp W C ZG) d;have d:=C'.bd;replace F:=W.f p';replace x:=W.hB p';have d:(s'.l.fC t j).tk=s'.l.tk:=by unfold LS.fC;split<;>rfl
  have m:∀i,i<j->((s'.l.fC t j).tk t).a i=(s.l.tk t).a i:=λi A=>by rw[d,Jc i ω,k];show(O.l.tk t).a i=_;rw[Y]
  have m:∀i,i<j->((s'.l.fC t j).tk t).q i=(s.l.tk t).q i:=λi A=>by rw[d,DG i ω,k];show(O.l.tk t).q i=_;rw[Q]
  have Zs:=hr;have d:(∃H e0,r=.inl (.tuple #[i6 H,e0]))\/r=.inr (.iface 182 (i6 b.n)):=by
   rcases hr with ⟨_,h⟩|⟨_,e,h,_⟩|⟨_,h⟩
   .simp_all
   .simp_all
   simp_all
  rcases d with ⟨H,e0,rfl⟩|rfl
  .refine XK.ret _ _ _ _ _ C'.sat λa8 d e U d=>Rb F x a U e 5 [] 1 [] [(5,ev [(4,i6 H),(42,#[i6 H,e0][1]),(41,i6 H),(40,.tuple #[i6 H,e0]),(39,ptr E.T),(38,.iface ty (ptr (D.lb (j+1))))] (Operand.tmp 42)),(4,i6 H)] 55 4 [] λm d d e h h h=>Mj F ρ e XG f178 func178 _ rfl ρ 39 ρ d λDq yU v=>Be W hj hk {C' with sat:=d.sat,bd:=by omega} CG yU v ω λs2 a2 w2 n bs qs q1 q2 q3 q4 q5=>NW F q1 q2 f178 func178 ρ ?_;refine G6 F (a:=⟨m.tmps,[]⟩) (N:=43) ⟨d.env.sz,d.env.val⟩ q3.sat a B rfl [] (.tuple #[i6 H,e0]) ρ ρ ?_;exact K m2 p' s2 w2 X _ b ω ω q3 ξ Zs (λi A=>ξ) (λi A=>ξ)
  .obtain⟨a8,t8,rfl,U,d⟩:=XK.NO;show E.Ψ p' (G ((bb.at a8 t8).raise (je (.iface 182 (i6 b.n)))) (c::S)) w';rw[raise_at hn.m];refine Tc F U XG f178 func178 _ rfl ρ 39 ρ C'.sat λDq c yU v c=>Be W hj hk C' CG yU v c λs2 a2 w2 n bs qs q1 q2 q3 q4 q5=>Xe F q1 q2 f178 func178 ρ ?_;refine F.lJ rfl (by rw[B];rfl) ?_;exact K m2 p' s2 w2 X (.inr (.iface 182 (i6 b.n))) b ω ω q3 ξ Zs (λi A=>ξ) (λi A=>ξ)
 .refine Rb F x a V S2 14 [] 7 [] [(14,ptr E.T),(13,ptr (D.lb j))] 25 3 [] λa3 w3 M u YF yO mH=>ah F a u M 15 167 #[ptr (D.lb j),ptr E.T] λIb g=>rL W {C1 with sat:=M.sat,bd:=by omega} hj FR λN w4 q y k FO=>g _ _ _ y.sat λa4 B4 S4 o Bj=>?_;have L:=y.bd;refine Rb F x a o S4 5 [] 1 [] [(5,.iface 184 (ptr q)),(4,i6 0)] 31 3 [] λa5 w5 Z l Y5 Dw qO=>cC F Z a B l [] (.tuple #[i6 0,.iface 184 (ptr q)]) ?_;rw[<-k]at f;exact K m1 p1 N w5 [oR q 0 [i6 3,i6 j,i6 0,.nilIface] false] (.inl (.tuple #[i6 0,.iface 184 (ptr q)])) (c9 3 j 0) ω T {y with sat:=Z.sat,bd:=by omega} f (.inr (.inl ⟨rfl,_,rfl,q,.nilIface,rfl,⟨rfl,0,rfl⟩,rfl⟩)) (λi A=>by rw[k];show(O.l.tk t).a i=_;rw[Y]) (λi A=>by rw[k];show(O.l.tk t).q i=_;rw[Q])
end
end Go.Proofs.YtobagnjnbmgidabGreatDoor
