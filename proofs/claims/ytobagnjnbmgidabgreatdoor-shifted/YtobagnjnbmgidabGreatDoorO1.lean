import Derived.Test.YtobagnjnbmgidabGreatDoorP10
import Derived.Test.YtobagnjnbmgidabGreatDoorA54
set_option linter.all false
set_option maxHeartbeats 0
set_option maxRecDepth 100000
namespace Go.Proofs.YtobagnjnbmgidabGreatDoor
open Go.Conc Go.RowKit Tryz
variable{b:Bk}{V:Ev0}{tc z:Int}{cap e g j j0 m n o aS:Nat}{wt:Nat->tU}{a r r':aH}{C O P R Y:aW}{w' w0:aj}{Z cf:aC}{v:eX}{q:aN}{es:jl}{Tf:bU}{U:cO}{L:iO}
variable{main:Bool}{B t wn k i T c ba bt bu bl bc bw:Nat}{I:dh}{Ψ:gi}{γ:Type}{D:PK}{en u:ay}{eb:mW}{f':Fb}{w:aj}{M:aW}{E:TE γ}
def Lr(I:dh)(Ψ:gi)(r:Bool->Value)(cf:aC)(U:cO)(w:aj)(s:PS)(C:aW)(n:Nat)(z:Int)(b:Bk):Prop:=
 (¬((s.l.wt n).x=false/\(s.l.wt n).e=false)->∀w',Sat I w' (pM s++(wR s n++C))->w.heap.size<=w'.heap.size->Ψ (G (cf.finish (r false)) U) w')/\
 ((s.l.wt n).x=false->(s.l.wt n).e=false->∀i en eb ba bw w',i<=s.q.length->Sat I w' (pM (s.uQ n i en eb ba bw z b)++(wR (s.uQ n i en eb ba bw z b) n++(oR ba 0 [ptr s.k.A] false::oR bw 0 [ptr (s.wb n)] false::C)))->PV I (s.uQ n i en eb ba bw z b) (bA (s.uQ n i en eb ba bw z b))->QI (s.uQ n i en eb ba bw z b)->w.heap.size<=w'.heap.size->Ψ (G (cf.finish (r true)) U) w')
def Rs(F:aB prog main (DX I) Ψ)(o:HB B I){s:PS}{u:Nat}(L:z=2\/z=3)(D:nJ (s.l.wt n)=0->(s.l.wt n).x=false/\(s.l.wt n).e=false)(x:n<s.l.wl)(v:(s.l.wt n).t=(u:Int))(E:Sat I w (pM s++(wR s n++C)))(O:Has C (wF (s.T u) s.k.A u tc aS))(J:PV I s (bA s))(Q:QI s)(P:Flat C)(j:B<=w.heap.size)(N:s.q.length<1000000)(j:0<=s.l.now/\s.l.now<1000000000000)(K:Lr I Ψ Value.bool cf U w s C n z b):
 Ψ (G (Frame.enter prog 181 #[ptr (s.wb n),i6 z] .normal) (cf::U)) w:=by
 have e:=E.get ((O.app (wR s n)).app (pM s));unfold wR at e;rw[v,mY]at e;have B:Flat (lf s n++C):=Flat.app (bO.2 (EG s n)) P;replace E:Sat I w (wF (s.T u) s.k.A u tc aS::(pM s++(oR (s.wb n) 1 [i6 (nJ (s.l.wt n))] true::oR (s.wb n) 0 [ptr (s.T u)] false::(lf s n++C)))):=e;refine cJ func181 E 29 λZ j a j d l h H j=>?_;by_cases m:(s.l.wt n).x=false/\(s.l.wt n).e=false
 .have k:nJ (s.l.wt n)=0:=by unfold nJ;simp_all
  rw[k]at H;refine aq (λM=>bR (a+1) [ptr s.k.A]::(bR (a) [ptr (s.wb n)]::(bh 8 (0,0) (i6 z) (M)))) 2 F o d h H 38 [0,0,0,1,9,0,0,1,0,0,0,1,9,0,0,1,0,0,0,1,10,0,0,1,1,0,0,1,0,0,0,1,0,0,0,1,0,0,0,1,3,0,0,1] 5 [6] [(27,.func (Fn.func 182) #[] #[ptr (a+1),ptr a]),(26,i6 s.l.now),(22,ptr s.k.A)] 38 2 [6] λj f p j q t w=>?_;have O:Sat I f (bR (a+1) [ptr s.k.A]::bR a [ptr (s.wb n)]::wF (s.T u) s.k.A u tc aS::(pM s++(oR (s.wb n) 1 [i6 z] true::oR (s.wb n) 0 [ptr (s.T u)] false::(lf s n++C)))):=p.sat.cast ρ;have G:Sat I f (pM s++(oR (s.wb n) 1 [i6 z] true::oR (s.wb n) 0 [ptr (s.T u)] false::oR (a+1) 0 [ptr s.k.A] false::oR a 0 [ptr (s.wb n)] false::(lf s n++C))):=by
   have w:Sat I f (oR (a+1) 0 [ptr s.k.A] false::oR a 0 [ptr (s.wb n)] false::(pM s++(oR (s.wb n) 1 [i6 z] true::oR (s.wb n) 0 [ptr (s.T u)] false::(lf s n++C)))):=Sat.BC (A:=[_,_]) (Sat.yg [_] O.fix);refine w.perm ?_;have:=fA [oR (a+1) 0 [ptr s.k.A] false,oR a 0 [ptr (s.wb n)] false] (pM s++[oR (s.wb n) 1 [i6 z] true,oR (s.wb n) 0 [ptr (s.T u)] false]) (lf s n++C);simp_all
  refine ah F d j p 28 47 #[ptr s.k.A,i6 s.l.now,.func (Fn.func 182) #[] #[ptr (a+1),ptr a]] λj j=>Kq F o s.l.now (.func 182) #[] #[ptr (a+1),ptr a] G J ((((B.cons rfl).cons rfl).cons rfl).cons rfl) ω (by rw[jT];exact N) λi en eb w A w G c B=>j _ _ _ G λj j G j B=>?_;rw[jT]at A;refine UF F o d l j G 5 [] 1 [] 4 (.bool true) 44 2 [6] λj G B B=>?_;let⟨N,B⟩:=Q.uQ (en:=en) (eb:=eb) (ba:=a+1) (bw:=a) (b:=b) L x A w;refine K.2 m.1 m.2 i en eb (a+1) a j A ?_ ?_ N ω
  .have j:wR (s.uQ n i en eb (a+1) a z b) n=oR (s.wb n) 1 [i6 z] true::oR (s.wb n) 0 [ptr (s.T u)] false::lf s n:=by
    unfold wR;show oR _ 1 [i6 (nJ ((s.l.fix n z b).wt n))] true::oR _ 0 [ptr (s.T ((s.l.fix n z b).wt n).t.toNat)] false::lf s n=_;simp[LS.fix,LS.put,upd,nJ,v]
   rw[j];refine G.sat.perm (eN _ ?_);have:=fA [oR (a+1) 0 [ptr s.k.A] false,oR a 0 [ptr (s.wb n)] false] (lf s n) C;simp_all
  .rw[B];exact⟨c.jr,c.en,c.eo,c.fb,c.rm,λr g=>by
    rcases ak.1 g with rfl|g
    .simp
    .rcases ak.1 g with rfl|g
     .simp
     .exact J.cx r g,c.bg⟩
 .have k:nJ (s.l.wt n)≠0:=λy=>m (D y);refine oH (λM=>bR (a) [ptr (s.wb n)]::(M)) 1 F o d l h H 19 [0,0,0,1,9,0,0,1] 6 [] 4 (.bool false) 19 3 [] [] [(nJ (s.l.wt n) !=0,true)] [] [] λf p q t=>K.1 m f ?_ ω;unfold wR;rw[v,mY];exact p.sat.tail.tail
def N6(F:aB prog main (DX I) Ψ)(e:HB B I){s:PS}{u:Nat}(j:nJ (s.l.wt n)=0->(s.l.wt n).x=false/\(s.l.wt n).e=false)(f:n<s.l.wl)(o:(s.l.wt n).t=(u:Int))(a:Sat I w (pM s++(wR s n++C)))(q:Has C (wF (s.T u) s.k.A u tc aS))(m:PV I s (bA s))(Q:QI s)(r:Flat C)(c:B<=w.heap.size)(p:s.q.length<1000000)(g:0<=s.l.now/\s.l.now<1000000000000)(K:Lr I Ψ Value.bool cf U w s C n 2 b):
 Ψ (G (Frame.enter prog 180 #[ptr (s.wb n)] .normal) (cf::U)) w:=by
 refine cJ func180 a 5 λZ a a a a d c l k=>Rb F e a c l 7 [] 1 [] [(3,ptr (s.wb n))] 7 1 [] λc c k c l l l=>ah F a c k 4 181 #[ptr (s.wb n),i6 2] λc c=>Rs F e (b:=b) (.inl rfl) j f o k.sat q m Q r ω p g ⟨λh j k g=>c _ _ _ k λp r m b f=>?_,λo k i en eb ba bw j n l j q g=>c _ _ _ l λp r m b f=>?_⟩
 .refine UF F e a d b m 2 [] 1 [] 2 (.bool false) 10 1 [] λc l f g=>K.1 h c l.sat ω
 .refine UF F e a d b m 2 [] 1 [] 2 (.bool true) 10 1 [] λc l f g=>K.2 o k i en eb ba bw c n l.sat j q ω
def LS.H9(L:LS)(t j:Nat)(a b c:Int):(L.say t a b c).mark t j=(L.mark t j).say t a b c:=by
 unfold LS.mark LS.say;simp only[upd,if_true]
section
variable{J:LS->Prop}
def xN(X A R O:aW)(a:aH):(X++(A++(a::(R++O)))).Perm (A++(a::((X++R)++O))):=by
 have h:=fA X (A++[a]) (R++O);simp_all
def Py(X A G R O:aW)(a:aH):(X++(A++(G++(a::(R++O))))).Perm (A++(G++(a::((X++R)++O)))):=by
 have h:=fA X (A++G++[a]) (R++O);simp_all
def Cn.more{p:γ}{s:PS}(C:Cn E D t p s w R)(X:aW)(b:∀r∈X,r.row=none)(h:Sat (E.Ok p) w' (X++(pM s++(E.me D t::(R++E.P p s)))))(a:w.heap.size<=w'.heap.size):Cn E D t p s w' (X++R):=
 ⟨h.perm (xN ..),C.pv,C.qi,by rw[dU];exact Flat.app (bO.2 b) C.fl,C.eH.app X,aT C.bd a,C.cp,C.ln,C.ti⟩
def Cn.Kv{p:γ}{s:PS}(C:Cn E D t p s w R)(c:j<D.V.nl)(X:aW)(d:∀r∈X,r.row=none)(h:Sat (E.Ok p) w' (X++(pM s++(gR (D.V.ly j) (D.lb j) (s.l.gt j) (s.f j) (s.lq j)++(E.me D t::(R++(gX s j++E.O p)))))))(b:w.heap.size<=w'.heap.size):Cn E D t p s w' (X++R):=by
 refine C.more X d (h.perm ?_) b;refine eN X ((pQ ..).symm.trans ?_);refine eN _ (List.Perm.cons _ (eN _ ?_));have a:=Yo s (k:=j) (by rw[C.hk];exact c);rw[C.hk]at a;rw[<-dU];exact(a.append_right _).symm
def CQ{s:PS}(c:s.k=D)(a:j<D.V.nl)(R O:aW)(a:aH):(pM s++(a::(R++(gS s++O)))).Perm (pM s++(gR (D.V.ly j) (D.lb j) (s.l.gt j) (s.f j) (s.lq j)++(a::(R++(gX s j++O))))):=by
 have b:=Yo s (k:=j) ξ;rw[c]at b;refine List.Perm.trans ?_ (pQ ..);refine eN _ (List.Perm.cons _ (eN _ ?_));rw[<-dU];exact b.append_right _
def RZ(W:jF E D J t)(B:j<D.V.nl)(hk:(D.V.ly j).k=4)(IH:dV E D J t (j+1)):dV E D J t j:=by
 intro m p s w R c U C m w K;rw[show iq D.V j=168 by unfold iq;grind];have F:=W.f p;have S:=W.hB p;have w:=C.bd;have hV:=W.V.br j B hk;have ZG:=AL m;obtain⟨m0,rfl,hs,Hh,Vv⟩:=Jj B hk hV.2.2.2.2.1 m;have hg:=hs.gt j B ω;have m:=hs.now;have XA:∀g f q,gR (D.V.ly j) (D.lb j) g f q=mI (D.lb j) g f:=λg f q=>by unfold gR;simp_all
 have f:=C.hk;have hA:∀{d:PS},d.k=D->d.k.A=D.A:=λh=>by rw[h]
 have hJ:∀{d:PS},d.k=D->d.k.J=D.J:=λh=>by rw[h]
 have FT:=C.eH.lay j B;have g:=C.pv.fb j ξ ξ;let⟨ty,YY,IZ⟩:=xT D (j+1);have w:=C.sat;refine cJ func168 w 43 λZ a0 a hn k qh tN S0 P9=>aq (λM=>bR (a+2) [.nilIface]::(bR (a+1) [ptr E.T]::(bR (a) [ptr (D.lb j)]::(M)))) 3 F S k tN S0 12 [2,0,0,1,1,0,0,1] 1 [] [(9,ptr E.T),(8,ptr (D.lb j)),(5,ptr (a+2)),(3,ptr (a+1)),(2,ptr a)] 12 1 [] λw w1 S1 w zS Dx o9=>?_;have C1:Cn E D t p s w1 ([bR (a+2) [.nilIface],oR (a+1) 0 [ptr E.T] false,oR a 0 [ptr (D.lb j)] false]++R):=C.more [bR (a+2) [.nilIface],oR (a+1) 0 [ptr E.T] false,oR a 0 [ptr (D.lb j)] false] (λr A=>by simp at A;grind) (Sat.yg [bR (a+2) [.nilIface],oR (a+1) 0 [ptr E.T] false] (Sat.yg [bR (a+2) [.nilIface]] S1.sat)) ω;have h1:=C1.open B;rw[XA]at h1;refine ah F k w S1 10 170 #[ptr (D.lb j),ptr E.T] λw I7=>MP F S (j:=j) (y:=D.V.ly j) hg h1 (by rw[hJ f];exact(C1.eH.lay j B).pre _|>.cons) (by rw[hA f,C1.cp.hT.2.2];exact kT) ((C1.eH.Lh j B hk).pre _|>.cons) C.pv.jr g ω hs.el m hV.2.2.2.2 (λhc Q h2 yP=>?_) (λhc ea ec vv f' Q h2 Uz YR yP=>?_)
 .have C2:Cn E D t p s Q ([bR (a+2) [.nilIface],oR (a+1) 0 [ptr E.T] false,oR a 0 [ptr (D.lb j)] false]++R):=C1.Kv B [] (λr A=>by cases A) ξ ω;have W4:=C2.bd;refine I7 _ _ _ (C2.sat.perm (xN ..).symm) λa2 B2 S2 DF tM=>Rb F S k DF S2 4 [] 7 [] [(5,ptr (a+2)),(3,ptr (a+1)),(2,ptr a)] 17 3 [] λa3 w3 S3 CJ YF yO mH=>?_;have C3:Cn E D t p s w3 ([bR (a+2) [.nilIface],oR (a+1) 0 [ptr E.T] false,oR a 0 [ptr (D.lb j)] false]++R):=C.more _ (λr A=>by simp at A;rcases A with rfl|rfl|rfl<;>rfl) S3.sat ω;have tO:∀d w' q,Cn E D t p d w' (oR q 0 [i6 3,i6 j,i6 0,.nilIface] false::([bR (a+2) [.nilIface],oR (a+1) 0 [ptr E.T] false,oR a 0 [ptr (D.lb j)] false]++R))->Sat (E.Ok p) w' [oR a 0 [ptr (D.lb j)] false,oR (a+1) 0 [ptr E.T] false]:=λd w' q H=>by
   refine H.sat.ED λr A=>?_;simp only[ak,bH,or_false]at A;rcases A with rfl|rfl
   .exact Has.in (X:=[oR q 0 [i6 3,i6 j,i6 0,.nilIface] false]) ⟨rfl,2,rfl⟩
   .exact Has.in (X:=[oR q 0 [i6 3,i6 j,i6 0,.nilIface] false]) ⟨rfl,1,rfl⟩
  have VK:Sat (E.Ok p) w3 [oR a 0 [ptr (D.lb j)] false,oR (a+1) 0 [ptr E.T] false]:=by
   refine C3.sat.ED λr A=>?_;simp only[ak,bH,or_false]at A;rcases A with rfl|rfl
   .exact Has.in (X:=[]) ⟨rfl,2,rfl⟩
   .exact Has.in (X:=[]) ⟨rfl,1,rfl⟩
  refine TL W.f aK W.hB k 7 4 [oR a 0 [ptr (D.lb j)] false,oR (a+1) 0 [ptr E.T] false] (Hq [0,0,0,1,1,0,0,1]) [(14,ptr (D.lb j)),(15,ptr E.T)] 16 167 #[ptr (D.lb j),ptr E.T] ρ ρ ρ ρ ρ S3 VK ω λcf w4 f Bj g=>rL W (w:=w4) {C3 with sat:=f.perm (xN ..),bd:=by omega} B hs λu w5 q C5 e5 Dw=>?_;have QY:=C5.bd;have Q8:=C5.sat.perm (gM (A:=pM u) (X:=[oR q 0 [i6 3,i6 j,i6 0,.nilIface] false]) (Y:=[bR (a+2) [.nilIface],oR (a+1) 0 [ptr E.T] false,oR a 0 [ptr (D.lb j)] false]));refine g.ret p _ w5 [] [(17,i6 0),(18,.iface 184 (ptr q)),(5,ptr (a+2))] _ QY (tO u w5 q C5) Q8 ρ ρ λa6 w6 f S6 DE YG Hf=>?_;rw[CJ]at DE;refine aq (λM=>bh 0 (0,0) (.iface 184 (ptr q)) (M)) 0 F S k DE S6 3 [0,0,0,1] 1 [] [(4,i6 0),(5,ptr (a+2))] 21 3 [7] λa7 f S7 CI g g g=>G6 F (a:=a7) (N:=43) (E:=[(4,i6 0),(5,ptr (a+2))]) S7.env S7.sat k qh CI [(0,(0,0),true)] (.tuple #[i6 0,.iface 184 (ptr q)]) ρ ρ ?_|>vi F ρ;have XD:=Hh hc;rw[<-e5]at XD;exact K m0 p u f [oR q 0 [i6 3,i6 j,i6 0,.nilIface] false] (.inl (.tuple #[i6 0,.iface 184 (ptr q)])) (c9 3 j 0) ω ω ⟨S7.sat.tail.tail.tail,C5.pv,C5.qi,Flat.OC (X:=[oR q 0 [i6 3,i6 j,i6 0,.nilIface] false]) (Y:=[bR (a+2) [.nilIface],oR (a+1) 0 [ptr E.T] false,oR a 0 [ptr (D.lb j)] false]) C5.fl,C.eH.cons,ω,C5.cp,C5.ln,C5.ti⟩ XD (.inr (.inl ⟨rfl,_,rfl,q,.nilIface,rfl,⟨rfl,0,rfl⟩,rfl⟩)) (λi L=>by rw[e5];rfl) (λi L=>by rw[e5];rfl)
 .have C2:=C1.shut B LG.W0 (by simp_all;omega) Uz (λ_=>YR) (λz=>ω) (w':=Q) ω;have N:=Vv hc;obtain⟨T,CG⟩:∃T:PS,T={s with ea:=ea,ec:=ec,vv:=vv,f:=upd s.f j f',l:=(s.l.aM t j).cz j}:=⟨_,rfl⟩;rw[<-CG]at C2;have e2:T.l=(s.l.aM t j).cz j:=by rw[CG]
  rw[<-e2]at N;have ZF:qm D.V t ((T.l.mark t j).say t j 8 0):=by
   cases m0 with
   |zero=>exact N.elim
   |succ m0=>exact N.1
  have f:T.l.el+1<1000000:=ZF.el;have W4:=C2.bd;refine I7 _ _ _ (C2.sat.perm (xN ..).symm) λa2 B2 S2 DF tM=>Rb F S k DF S2 5 [] 5 [] [(5,ptr (a+2)),(3,ptr (a+1)),(2,ptr a)] 18 2 [] λa3 w3 S3 CJ YF yO mH=>Rb F S k CJ S3 1 [2,0,0,1,1,0,0,1] 1 [4] [(22,ptr E.T),(21,ptr (D.lb j)),(5,ptr (a+2)),(3,ptr (a+1)),(2,ptr a)] 19 2 [4] λf w4 g f Bj m m=>ah F k f g 23 148 #[ptr (D.lb j),ptr E.T,i6 8,i6 0] λf VB=>iU W {C2 with sat:=g.sat.perm (xN ..),bd:=by omega} ω (C1.eH.lay j B) λu w5 C5 e5 Dw=>?_;have QY:=C5.bd;have Q8:=(C5.open B).perm (Py ..).symm;rw[XA]at Q8;obtain⟨f,FV⟩:∃f,f=su (u.f j) (u.l.gt j).la.length:=⟨_,rfl⟩;simp only[mI,<-FV]at Q8;refine VB _ _ _ Q8 λa5 o m f g=>aq (λM=>bR (o+1) [.bool true]::(bR (o) [i6 (u.l.gt j).pd]::(M))) 2 F S k f m 15 [2,0,0,1,10,0,2,1,1,0,0,1,0,0,0,1] 1 [] [(28,.func (Fn.func 171) #[] #[ptr a,ptr o,ptr (a+1),ptr (o+1),ptr (a+2)]),(7,ptr (o+1)),(5,ptr (a+2)),(3,ptr (a+1)),(2,ptr a)] 35 2 [4] λa6 w6 S6 DE YG Hf f=>Wc F hn DE 171 [ptr a,ptr o,ptr (a+1),ptr (o+1),ptr (a+2)] ρ ρ ρ S6 λa7 S7 CI=>aq (λM=>M) 2 F S k CI S7 2 [] 1 [] [(7,ptr (o+1)),(5,ptr (a+2)),(3,ptr (a+1)),(2,ptr a)] 38 2 [4] λa8 w8 S8 Nn f f f=>?_;have Sr:Cn E D t p u w5 R:=C5.drop C.eH;obtain⟨s8,I⟩:∃s8:PS,s8={u with l:=u.l.mark t j}:=⟨_,rfl⟩
  have aaI:gX s8 j=gX u j:=K3 (by rw[I]) (λi L=>by rw[I];rfl) (λi L=>ξ) (by rw[I];exact⟨⟨rfl,λ_ _=>rfl⟩,rfl,λi _=>by
   let⟨q,f⟩:=(LG.mark (t:=t) (j:=j) (L:=u.l)).Z6 i;unfold j7;simp_all⟩) (by rw[I])
  have VL:Sat (E.Ok p) w8 (mE a (a+1) (a+2) o (o+1) (D.lb j) E.T (u.l.gt j).pd .nilIface true++(pM s8++(mI (D.lb j) (s8.l.gt j) (s8.f j)++(E.me D t::(R++(gX u j++E.O p)))))):=by
   rw[I];have h:=Sat.yg [bR (o+1) [.bool true]] S8.sat;simp only[mI];rw[FV]at h;exact h
  have Cm:Cn E D t p s8 w8 R:=by
   have h:=Sr.shut (ea:=u.ea) (ec:=u.ec) (vv:=u.vv) (f':=u.f j) B (LG.mark (L:=u.l)) (w':=w8) (by rw[XA,fU];rw[I]at VL;exact VL.tail.tail.tail.tail.tail) Sr.pv.jr (λ_=>Sr.pv.fb j (by rw[Sr.hk];exact B) (by rw[Sr.hk];exact hk)) (λ_=>rfl) ω;rw[fU]at h;simp_all
  have C8:Cn E D t p s8 w8 (mE a (a+1) (a+2) o (o+1) (D.lb j) E.T (u.l.gt j).pd .nilIface true++R):=Cm.Kv B _ (λr A=>by simp at A;rcases A with rfl|rfl|rfl|rfl|rfl<;>rfl) (by rw[XA,aaI];exact VL) (az _);have e8:s8.l=(T.l.mark t j).say t j 8 0:=by rw[I,<-LS.H9,<-e5]
  rw[<-e8]at N;have hq8:(s8.l.tk t).q j=(u.l.gt j).pd:=by rw[I];simp[LS.mark,upd]
  have tO:∀l d w' X,Cn E D t l d w' (X++(mE a (a+1) (a+2) o (o+1) (D.lb j) E.T (u.l.gt j).pd .nilIface true++R))->Sat (E.Ok l) w' [oR a 0 [ptr (D.lb j)] false,oR (a+1) 0 [ptr E.T] false,tQ (D.lb j) (.iface ty (ptr (D.lb (j+1)))) j D.J]:=by
   intro l d w' X H;refine H.sat.ED λr A=>?_;simp only[ak,bH,or_false]at A;rcases A with rfl|rfl|rfl
   .exact Has.in ⟨rfl,4,rfl⟩
   .exact Has.in ⟨rfl,3,rfl⟩
   .rw[<-YY];exact Has.in (FT.app _)
  unfold dV at IH;generalize iq D.V (j+1)=gf at*;have f:=C8.sat;replace S8:St (E.Ok p) o 43 _ _ 2 a8 w8:=⟨S8.env,f,S8.sz⟩;refine TL W.f aK W.hB k 11 6 [oR a 0 [ptr (D.lb j)] false,oR (a+1) 0 [ptr E.T] false,tQ (D.lb j) (.iface ty (ptr (D.lb (j+1)))) j D.J] (Hq [0,0,0,1,2,0,0,1,1,0,0,1]) [(34,.iface ty (ptr (D.lb (j+1)))),(35,ptr E.T)] 36 gf #[ptr (D.lb (j+1)),ptr E.T] ρ ρ ρ ρ (by rcases IZ with ⟨rfl,rfl⟩|⟨rfl,rfl⟩|⟨rfl,rfl⟩|⟨rfl,rfl⟩|⟨rfl,rfl⟩|⟨rfl,rfl⟩|⟨rfl,rfl⟩<;>kernel_rfl) S8 (tO p s8 w8 [] C8) ω λcf w9 VN Tl VP=>IH m0 p s8 w9 _ cf (c::U) {C8 with sat:=VN,bd:=by omega} N ω λf l d w' X r b f f H f A Jc DG=>?_;obtain⟨m1,rfl,FR,Hj,I5⟩:=T5 hk (H.pp W C ZG) f;have Ny:=H.bd;replace F:=W.f l;replace S:=W.hB l;have f:=H.hk;have g:(d.l.tk t).q j=(u.l.gt j).pd:=(DG j ω).trans hq8;rw[<-g]at H tO;have OP:∀i,i<j->((d.l.count (D.V.ly j) t j b).tk t).a i=(s.l.tk t).a i:=λi L=>by
   rw[(LG.count (D.V.ly j) b).ta,Jc i ω,e8,(LG.say (j:=j) ..).ta,LG.mark.ta,e2,LG.W0.ta]
  have Qs:∀i,i<j->((d.l.count (D.V.ly j) t j b).tk t).q i=(s.l.tk t).q i:=λi L=>by
   rw[(LG.count (D.V.ly j) b).tq i ω,DG i ω,e8,(LG.say (j:=j) ..).tq i ω,LG.mark.tq i ω,e2,LG.W0.tq i ω]
  have g:=H.sat.perm (gM (A:=pM d));have m:Cn E D t l d w' (X++R):=⟨g.tail.tail.tail.tail.tail,H.pv,H.qi,H.fl.OC,C.eH.app X,Ny,H.cp,H.ln,H.ti⟩;have p:=m.pv.fb j χ χ;have Q7:=g.perm (eN _ (CQ f B (X++R) (E.O l) (E.me D t)));rw[XA]at Q7
  have Wd:∀(e:ay){cf:aC}{g:cO}{a0:Act}{w1:aj}{s:Nat},(b.k≠2/\e=.nilIface)\/(b.k=2/\(∃q,e=.iface 184 (ptr q))/\Yu X e b.ch)->w'.heap.size<=w1.heap.size->St (E.Ok l) s 16 [(0,ptr a),(1,ptr o),(2,ptr (a+1)),(3,ptr (o+1)),(4,ptr (a+2))] (mE a (a+1) (a+2) o (o+1) (D.lb j) E.T ((d.l.tk t).q j) e (decide (b.k≠1))++(pM d++(mI (D.lb j) (d.l.gt j) (d.f j)++(E.me D t::((X++R)++(gX d j++E.O l)))))) 0 a0 w1->a0.defers=[]->w1.heap.size=s->
   (∀T a2 Q n bs qs,iE (pc prog 171 n bs qs)=true->a2.defers=[]->Cn E D t l T Q (X++R)->T.l=d.l.count (D.V.ly j) t j b->Sat (E.Ok l) Q [bR (a+2) [e]]->E.Ψ l (G ((baseD 171).at a2 (pc prog 171 n bs qs)) (cf::g)) Q)->E.Ψ l (G ((baseD 171).at a0 (pc prog 171 0 [] [])) (cf::g)) w1:=by
   intro e cf g a0 w1 s he Dx S0 tN P9 KK;refine Gw F S (j:=j) (y:=D.V.ly j) (b:=b) (f:=d.f j) (FR.gt j B ω) (FR.q j B hk) (by rw[hJ f];exact(((C.eH.lay j B).app X).pre _).cons) (by rw[hA f,H.cp.hT.2.2];exact kT) ((((C.eH.Lh j B hk).app X).pre _).cons) m.pv.jr p ω FR.el ⟨hV.1,hV.2.2.1,hV.2.2.2.2⟩ Hj (he.imp id λz=>⟨z.1,z.2.1,z.2.2.up λr A=>((A.pre R).pre _).cons⟩) S0 tN P9 λea ec vv f2 a2 Q n bs qs q1 q2 q3 Y q5 f=>?_;have f:=m.shut B (LG.count (D.V.ly j) b) (w':=Q) (by rw[XA];exact q3.tail.tail.tail.tail.tail) Y (λ_=>q5) (λz=>ω) ω;exact KK _ a2 Q n bs qs q1 q2 f rfl (q3.sub ψ)
  obtain⟨TH,V⟩:∃TH,TH=su (d.f j) (d.l.gt j).la.length:=⟨_,rfl⟩;simp only[mI,<-V]at Q7;rcases A with ⟨hb,rfl⟩|⟨hb,e,rfl,he⟩|⟨hb,rfl⟩
  .refine VP.ret l _ w' [] [(4,i6 b.n),(38,.nilIface),(5,ptr (a+2)),(7,ptr (o+1))] _ Ny (tO l d w' X H) Q7 ρ ρ λDq Yf Ls yU O IU IX=>?_;rw[Nn]at O;refine aq (λM=>bh 0 (0,0) (.bool false) (M)) 0 F S k O yU 9 [2,0,0,1,2,0,0,1,0,0,0,1] 1 [] [(4,i6 b.n),(5,ptr (a+2))] 48 2 [4,11] λOX HH x Ns MY aaB NP=>?_;have KV:Sat (E.Ok l) HH (mE a (a+1) (a+2) o (o+1) (D.lb j) E.T ((d.l.tk t).q j) .nilIface false++(pM d++(oR (D.lb j) 8 [i6 (d.l.gt j).st,i6 (d.l.gt j).si,i6 (d.l.gt j).pd,i6 (d.l.gt j).pr,TH] true::fR ⟨(d.f j).g,0,none⟩ 1 (d.f j).v ((d.f j).o+(d.f j).c) true::(E.me D t::((X++R)++(gX d j++E.O l)))))):=x.sat.cast ρ;replace x:St (E.Ok l) Ls 43 _ _ 0 OX HH:=⟨x.env,KV,x.sz⟩;refine Iv F S k (e:=.nilIface) (nn:=b.n) (b5:=a+2) (.inl rfl) ω (x.dB _ rfl) Ns λa15 TZ R9 Np=>?_;have Ur:TZ.heap.size=Ls:=by have:=R9.sz;omega
   refine Rb F S k Np R9 1 [] 1 [] [(4,i6 b.n),(5,ptr (a+2))] 50 2 [4,11,4] λOW LX v Nq IQ aaA V4=>?_;have P:Sat (E.Ok l) LX (mE a (a+1) (a+2) o (o+1) (D.lb j) E.T ((d.l.tk t).q j) .nilIface (decide (b.k≠1))++(pM d++(mI (D.lb j) (d.l.gt j) (d.f j)++(E.me D t::((X++R)++(gX d j++E.O l)))))):=by
    rw[show decide (b.k≠1)=false by simp[hb]];subst V;exact v.sat
   refine Mj F ρ Nq Hr f171 func171 _ rfl ρ 16 ρ ⟨v.env,P,v.sz⟩ λTN Ws Nr=>Wd .nilIface (.inl ⟨ω,rfl⟩) ω Ws Nr ω λT a2 Q n bs qs q1 q2 q3 Y q5=>NW F q1 q2 f171 func171 ρ ?_;refine G6 F (a:=⟨OW.tmps,[]⟩) (N:=43) (E:=[(4,i6 b.n),(5,ptr (a+2))]) ⟨v.env.sz,v.env.val⟩ q5 k qh rfl [(0,(0,0),true)] (.tuple #[i6 b.n,.nilIface]) ρ ρ ?_;exact K m1 l T Q X _ b ω ω q3 (by rw[Y];exact I5) (.inl ⟨hb,rfl⟩) (λi L=>by rw[Y];exact OP i L) (λi L=>by rw[Y];exact Qs i L)
  .obtain⟨q,rfl⟩:∃q,e=.iface 184 (ptr q):=by
    cases mQ:b.ch with
    |nil=>
     rcases Hj.2.2 with ⟨z,_⟩|⟨_,_,z⟩|⟨z,_⟩
     .omega
     .exact absurd mQ z
     .omega
    |cons y ch=>rw[mQ]at he;let⟨q,_,h,_⟩:=he;exact⟨q,h⟩
   refine VP.ret l _ w' [] [(4,i6 0),(38,(.iface 184 (ptr q))),(5,ptr (a+2)),(7,ptr (o+1))] _ Ny (tO l d w' X H) Q7 ρ ρ λDq Yf Ls yU O IU IX=>?_;rw[Nn]at O;refine aq (λM=>bh 2 (0,0) (.iface 184 (ptr q)) (M)) 0 F S k O yU 9 [2,0,0,1,2,0,0,1,0,0,0,1] 1 [] [(4,i6 0),(5,ptr (a+2))] 48 2 [4,11] λOX HH x Ns MY aaB NP=>?_;have KV:Sat (E.Ok l) HH (mE a (a+1) (a+2) o (o+1) (D.lb j) E.T ((d.l.tk t).q j) (.iface 184 (ptr q)) true++(pM d++(oR (D.lb j) 8 [i6 (d.l.gt j).st,i6 (d.l.gt j).si,i6 (d.l.gt j).pd,i6 (d.l.gt j).pr,TH] true::fR ⟨(d.f j).g,0,none⟩ 1 (d.f j).v ((d.f j).o+(d.f j).c) true::(E.me D t::((X++R)++(gX d j++E.O l)))))):=x.sat.cast ρ;replace x:St (E.Ok l) Ls 43 _ _ 0 OX HH:=⟨x.env,KV,x.sz⟩;refine Iv F S k (e:=(.iface 184 (ptr q))) (nn:=0) (b5:=a+2) (.inr ⟨q,rfl⟩) ω (x.dB _ rfl) Ns λa15 TZ R9 Np=>?_;have Ur:TZ.heap.size=Ls:=by have:=R9.sz;omega
   refine Rb F S k Np R9 1 [] 1 [] [(4,i6 0),(5,ptr (a+2))] 50 2 [4,11,4] λOW LX v Nq IQ aaA V4=>?_;have P:Sat (E.Ok l) LX (mE a (a+1) (a+2) o (o+1) (D.lb j) E.T ((d.l.tk t).q j) (.iface 184 (ptr q)) (decide (b.k≠1))++(pM d++(mI (D.lb j) (d.l.gt j) (d.f j)++(E.me D t::((X++R)++(gX d j++E.O l)))))):=by
    rw[show decide (b.k≠1)=true by simp[hb]];subst V;exact v.sat
   refine Mj F ρ Nq Hr f171 func171 _ rfl ρ 16 ρ ⟨v.env,P,v.sz⟩ λTN Ws Nr=>Wd (.iface 184 (ptr q)) (.inr ⟨hb,⟨q,rfl⟩,he⟩) ω Ws Nr ω λT a2 Q n bs qs q1 q2 q3 Y q5=>NW F q1 q2 f171 func171 ρ ?_;refine G6 F (a:=⟨OW.tmps,[]⟩) (N:=43) (E:=[(4,i6 0),(5,ptr (a+2))]) ⟨v.env.sz,v.env.val⟩ q5 k qh rfl [(0,(0,0),true)] (.tuple #[i6 0,(.iface 184 (ptr q))]) ρ ρ ?_;exact K m1 l T Q X _ b ω ω q3 (by rw[Y];exact I5) (.inr (.inl ⟨hb,_,rfl,he⟩)) (λi L=>by rw[Y];exact OP i L) (λi L=>by rw[Y];exact Qs i L)
  .obtain⟨a5,t5,rfl,QT,e⟩:=VP.NO;rw[Nn]at QT;show E.Ψ l (G ((Z.at a5 t5).raise (je (.iface 182 (i6 b.n)))) (c::U)) w';rw[raise_at hn.m];have P:Sat (E.Ok l) w' (mE a (a+1) (a+2) o (o+1) (D.lb j) E.T ((d.l.tk t).q j) .nilIface (decide (b.k≠1))++(pM d++(mI (D.lb j) (d.l.gt j) (d.f j)++(E.me D t::((X++R)++(gX d j++E.O l)))))):=by
    rw[show decide (b.k≠1)=true by simp[hb]];subst V;exact Q7
   refine Tc F QT Hr f171 func171 _ rfl ρ 16 ρ P λa a d c a=>Wd .nilIface (.inl ⟨ω,rfl⟩) (az _) d c a λT a2 Q n bs qs q1 q2 q3 Y q5=>Xe F q1 q2 f171 func171 ρ ?_;refine F.lJ rfl (by rw[qh];rfl) ?_;exact K m1 l T Q X (.inr (.iface 182 (i6 b.n))) b ω ω q3 (by rw[Y];exact I5) (.inr (.inr ⟨hb,rfl⟩)) (λi L=>by rw[Y];exact OP i L) (λi L=>by rw[Y];exact Qs i L)
end
def YJ:∀{n:Nat}{q:aN},yV q n wt k->tJ wt k n=q.find? λw=>!(wt w).x&&!(wt w).e:=by
 intro n q h;have key:∀m,m<=n->(tJ wt k m=none/\∀w,w<m->¬((wt w).l=k/\(wt w).x=false/\(wt w).e=false))\/∃w,tJ wt k m=some w/\w<m/\((wt w).l=k/\(wt w).x=false/\(wt w).e=false)/\∀v,v<w->¬((wt v).l=k/\(wt v).x=false/\(wt v).e=false):=by
  intro m;induction m with
  |zero=>intro _;exact .inl ⟨rfl,λw f=>ω⟩
  |succ m b=>
   intro j;rcases b ω with ⟨c,d⟩|⟨w,c,d,b,i⟩
   .unfold tJ;grind
   .exact .inr ⟨w,by unfold tJ;rw[c],ω,b,i⟩
 rcases key n (az _)with ⟨c,d⟩|⟨w,c,d,b,i⟩
 .rw[c];symm;rw[List.find?_eq_none];intro w f;have:=h.mem w f;simp_all
 .rw[c];symm;rw[List.find?_eq_some_iff_append];refine⟨by simp[b],?_⟩;let⟨f,c,e⟩:=List.append_of_mem (h.all w d b.1 b.2.1 b.2.2);refine⟨f,c,e,λa c=>?_⟩;have g:=h.pN;rw[e,YS]at g;have b:=g.2.2 a c w (bI ..);have j:=(h.mem a ξ).2;grind
def yV.tail(h:yV (m::q) n wt k)(a:¬((wt m).x=false/\(wt m).e=false)):yV q n wt k:=
 ⟨(iG.1 h.pN).2,λw a=>h.mem w (aP _ a),λw d c b a=>by
   rcases ak.1 (h.all w d c b a)with rfl|z
   .simp_all
   .exact z⟩
def yV.uQ{L:LS}(h:yV q L.wl L.wt k)(n:Nat):yV q L.wl (L.dg n).wt k:=by
 have e:∀w,((L.dg n).wt w).l=(L.wt w).l/\(((L.dg n).wt w).x=false->(L.wt w).x=false)/\((L.dg n).wt w).e=(L.wt w).e:=λw=>by
  simp only[LS.dg,LS.fix,LS.put,upd];grind
 exact⟨h.pN,λw a=>⟨(h.mem w a).1,by rw[(e w).1];exact(h.mem w a).2⟩,λw b a a c=>h.all w b ξ ((e w).2.1 a) ξ⟩
def Sat.shift(h:Sat I w (fR ⟨g,o,none⟩ 1 v (n+1) true::M)):Sat I w (fR ⟨g,o+1,none⟩ 1 (λj=>v (j+1)) n true::M):=by
 have i:∀j:Ix,(fR ⟨g,o+1,none⟩ 1 (λj=>v (j+1)) n true).ad j=(fR ⟨g,o,none⟩ 1 v (n+1) true).ad (j.1+1,j.2):=λj=>by
  show((⟨g,o+1,none⟩:Addr).add (j.1*1)).add j.2=((⟨g,o,none⟩:Addr).add ((j.1+1)*1)).add j.2;simp only[ey,lm];simp
 have c:∀j:Ix,(fR ⟨g,o+1,none⟩ 1 (λj=>v (j+1)) n true).has j->(fR ⟨g,o,none⟩ 1 v (n+1) true).has (j.1+1,j.2):=λj a=>⟨YW a.1,a.2⟩
 have d:=sat_iff.1 h;have H:=d.1 _ (bI ..);let⟨h,g⟩:=iG.1 d.2;refine sat_iff.2 ⟨λr d=>?_,iG.2 ⟨λr d k j f a b e=>h r d (.inl rfl) _ f (c j a) b ξ,g⟩⟩;rcases ak.1 d with rfl|d
 .refine⟨λj a=>by rw[i];exact H.val _ (c j a),λj a=>by rw[i];exact H.ok _ (c j a),λ_ j f a b e=>?_,λ_ _ _ z=>by cases z⟩;have:=H.inj rfl _ _ (c j a) (c f b) ξ;grind
 simp_all
def Sat.Md(A:aW)(h:Sat I w (A++(fR ⟨g,o,none⟩ 1 v (n+1) true::M))):Sat I w (A++(fR ⟨g,o+1,none⟩ 1 (λj=>v (j+1)) n true::M)):=
 (h.perm eY).shift.perm eY.symm
def Sc{s:PS}{eb:mW}:(wX (s.uQ n i en eb ba bw z b) n).Perm (oR ba 0 [ptr s.k.A] false::oR bw 0 [ptr (s.wb n)] false::wX s n):=by
 have e:((List.range s.l.wl).flatMap λj=>if j=n then[]else wR (s.uQ n i en eb ba bw z b) j)=(List.range s.l.wl).flatMap λj=>if j=n then[]else wR s j:=by
  congr 1;funext j;by_cases e:j=n
  .simp_all
  .rw[af e,af e];unfold wR;show _::_::lf s j=_;simp[LS.fix,LS.put,upd,e]
 unfold wX;show(gA s++(((List.range s.l.wl).flatMap λj=>if j=n then[]else wR (s.uQ n i en eb ba bw z b) j)++(oR s.k.A 2 [i6 s.l.tl] true::(tS s++(oR ba 0 [ptr s.k.A] false::oR bw 0 [ptr (s.wb n)] false::s.cx))))).Perm _;rw[e];unfold xS;exact j8 λf=>χ
def Ek(h:r∈M)(a:r.wr=false):Has M r:=by
 let⟨i,b⟩:=u9 h;exact⟨a,i,by rw[dF];exact b⟩
def O8{s:PS}{u:Nat}(a:u<s.l.tl):Has (tS s) (wF (s.T u) s.k.A u (s.l.tk u).c (s.aS u)):=Ek (mL.2 ⟨u,aZ.2 a,by simp[j7]⟩) rfl
def O7{s:PS}{u:Nat}(a:u<s.l.tl):Has (xS s) (wF (s.T u) s.k.A u (s.l.tk u).c (s.aS u)):=((O8 a).pre _).cons
def Gh{s:PS}{u:Nat}(a:u<s.l.tl):Has (wX s n) (wF (s.T u) s.k.A u (s.l.tk u).c (s.aS u)):=((O7 a).app _).app _
section
variable{J:LS->Prop}
def II(W:jF E D J t)(hj:j<D.V.nl)(hk:(D.V.ly j).k=5){p:γ}{L0:LS}(rZ:L0.al<1000000)(U5:0<=L0.now/\L0.now<1000000000000)(htn:-1000000<(L0.gt j).tn/\(L0.gt j).tn<1000000)(K:∀s' a' w' n bs qs,iE (pc prog 178 n bs qs)=true->a'.defers=[]->Cn E D t p s' w' R->s'.l=(match tJ L0.wt j L0.wl with
 |some w=>L0.dg w
 |none=>L0.aO j {L0.gt j with tn:=(L0.gt j).tn-1})->w0.heap.size<=w'.heap.size->E.Ψ p (G ((baseD 178).at a' (pc prog 178 n bs qs)) (cf::U)) w'):∀(q:aN)(s:PS)(w:aj)(a0:Act)(B0:Nat),s.lq j=q->s.l=L0->Cn E D t p s w R->w0.heap.size<=w.heap.size->a0.defers=[]->w.heap.size=B0->aR [(0,ptr (D.lb j))] 39 a0->E.Ψ p (G ((baseD 178).at a0 (pc prog 178 11 [] [])) (cf::U)) w:=by
 have F:=W.f p;have hB:=W.hB p;intro q;induction q with
 |nil=>
  intro s w a0 B0 hq hl C Zn Y P VV;have QZ:=C.bd;obtain⟨base,c,G⟩:∃base c,su (s.f j) 0=.slice base 0 c:=by unfold su;split<;>exact⟨_,_,rfl⟩
  have hO:=C.open hj;have B:∀g,gR (D.V.ly j) (D.lb j) g (s.f j) (s.lq j)=[oR (D.lb j) 5 [i6 g.tn,.slice base 0 c] true,fR ⟨(s.f j).g,(s.f j).o,none⟩ 1 (s.f j).v (rK (s.f j)) true]:=λg=>by unfold gR;simp_all
  rw[B]at hO;have S0:St (E.Ok p) B0 39 _ _ 0 a0 w:=⟨VV,hO,P⟩;refine qk (λM=>bh 7 (0,0) (i6 (IntKind.wrap .i64 ((s.l.gt j).tn-1))) (M)) 0 F hB Y S0 22 [7,0,1,1,7,0,0,1,7,0,0,1] 5 [] [] 33 2 [] [] [] [] [] λa1 w1 S1 X zS Dx o9=>?_;have G:IntKind.wrap .i64 ((s.l.gt j).tn-1)=(s.l.gt j).tn-1:=aA χ χ;rw[G]at S1;have h1:Sat (E.Ok p) w1 (pM s++([oR (D.lb j) 5 [i6 ((s.l.gt j).tn-1),.slice base 0 c] true,fR ⟨(s.f j).g,(s.f j).o,none⟩ 1 (s.f j).v (rK (s.f j)) true]++(E.me D t::(R++(gX s j++E.O p))))):=S1.sat.cast ρ;have C1:=C.shut (ea:=s.ea) (ec:=s.ec) (vv:=s.vv) (f':=s.f j) (L':=s.l.aO j {s.l.gt j with tn:=(s.l.gt j).tn-1}) hj (LG.aO _) (w':=w1) (by rw[Bu,B];exact h1) C.pv.jr (λz=>ω) (λ_=>rfl) ω;have x:=YJ (C.ln j hj hk);rw[hq,hl]at x;rw[x]at K;exact K _ a1 w1 33 [false] [] ρ X C1 ξ ω
 |cons n q ih=>
  intro s w a0 B0 hq hl C Zn Y P VV;have QZ:=C.bd;have G:=C.hk;have d:=C.pv.rm j ξ ξ;rw[hq]at d;have H:(s.f j).s=true:=by
   cases h:(s.f j).s with
   |true=>rfl
   |false=>have:=(d.nil h).1;cases this
  have hc:=d.len H;have G:=d.val 0 ψ;have G:rK (s.f j)=(s.f j).c:=by unfold rK;grind
  have W:1<=(s.f j).c:=χ
  have hO:=C.open hj;have B:∀g,gR (D.V.ly j) (D.lb j) g (s.f j) (s.lq j)=[oR (D.lb j) 5 [i6 g.tn,.slice (some ⟨(s.f j).g,(s.f j).o,none⟩) (q.length+1) (s.f j).c] true,fR ⟨(s.f j).g,(s.f j).o,none⟩ 1 (s.f j).v (s.f j).c true]:=λg=>by unfold gR;rw[af ω,af ω,sJ hk,hq,G];simp only[gB,su,H,if_true]
  rw[B]at hO;replace hO:=hO.re 8 rfl rfl (λi=>match i with|0=>[ptr (s.wb n)]|i+1=>(s.f j).v (i+1)) (λi hi f f=>by
   grind)
  have S0:St (E.Ok p) B0 39 _ _ 0 a0 w:=⟨VV,hO,P⟩;have f:decide (((q.length+1:Nat):Int)>0)=true:=ψ
  refine ZH F hB Y S0 30 [7,0,1,1,7,0,1,1,8,0,0,101,7,0,1,1] 26 [] [(26,.slice (some (Addr.mk (s.f j).g (s.f j).o none)) (List.length q+1) (s.f j).c),(22,ptr (D.lb j)),(4,ptr (s.wb n)),(0,ptr (D.lb j))] 41 3 [] [] [(decide ((↑(List.length q+1):Int)>0),true)] [(0,List.length q+1)] [(1,(0,(s.f j).c))] λa1 w1 S1 X zS Dx o9=>Ub t156 F δ 26 27 ρ ρ δ rfl hc S1 λa2 OR V=>?_;rw[show jB (pc prog 178 41 (Bo 3) [])=pc prog 178 42 [true] [] by kernel_rfl];obtain⟨ad,NC⟩:∃ad,ad=(if(s.f j).c=1 then(⟨(s.f j).g,(s.f j).o,none⟩:Addr)else(⟨(s.f j).g,(s.f j).o,none⟩:Addr).add 1):=⟨_,rfl⟩;rw[<-NC]at OR;have S2:St (E.Ok p) B0 39 _ _ 0 a2 w1:=⟨OR,S1.sat,S1.sz⟩;replace S2:=S2.dB [(27,.slice (some ad) q.length ((s.f j).c-1)),(22,ptr (D.lb j)),(4,ptr (s.wb n)),(0,ptr (D.lb j))] rfl;replace V:=V.trans X;have f:w1.heap.size=B0:=ω
  refine qk (λM=>bh 7 (0,1) (.slice (some ad) (List.length q) ((s.f j).c-1)) (M)) 0 F hB V S2 7 [7,0,1,1] 1 [] [(30,ptr (s.wb n)),(0,ptr (D.lb j))] 49 3 [] [] [] [] [] λf w3 S3 CJ f f f=>?_;have XB:∀(g:Gt)(f':Fb),gR (D.V.ly j) (D.lb j) g f' q=[oR (D.lb j) 5 [i6 g.tn,su f' q.length] true,fR ⟨f'.g,f'.o,none⟩ 1 f'.v (rK f') true]:=λg f'=>by unfold gR;simp_all
  have O:Sat (E.Ok p) w3 (pM s++([oR (D.lb j) 5 [i6 (s.l.gt j).tn,.slice (some ad) q.length ((s.f j).c-1)] true,fR ⟨(s.f j).g,(s.f j).o,none⟩ 1 (λi=>match i with|0=>[ptr (s.wb n)]|i+1=>(s.f j).v (i+1)) (s.f j).c true]++(E.me D t::(R++(gX s j++E.O p))))):=S3.sat.cast ρ;obtain⟨f',YR,Nk⟩:∃f':Fb,G3 (E.Ok p) s.wb q f'/\Sat (E.Ok p) w3 (pM s++(gR (D.V.ly j) (D.lb j) (s.l.gt j) f' q++(E.me D t::(R++(gX s j++E.O p))))):=by
   by_cases Z:(s.f j).c=1
   .have M9:q=[]:=ξ
    subst M9;refine⟨⟨true,(s.f j).g,(s.f j).o,0,λi=>match i with|0=>[ptr (s.wb n)]|i+1=>(s.f j).v (i+1)⟩,⟨(λz=>by cases z),λ_=>az _,λ_=>d.ok H,(λi hi=>by cases hi)⟩,?_⟩;rw[XB];rw[NC,sJ Z,Z]at O;exact O
   .refine⟨⟨true,(s.f j).g,(s.f j).o+1,(s.f j).c-1,λi=>(s.f j).v (i+1)⟩,⟨(λz=>by cases z),λ_=>χ,λ_=>d.ok H,λi hi=>by have:=d.val (i+1) ξ;simp_all⟩,?_⟩;rw[XB];rw[NC,af Z]at O;obtain⟨f,g⟩:∃f,(s.f j).c=f+1:=⟨(s.f j).c-1,ω⟩;have w:rK ⟨true,(s.f j).g,(s.f j).o+1,(s.f j).c-1,λi=>(s.f j).v (i+1)⟩=f:=by unfold rK;simp only[if_true];omega
    rw[w];simp only[su,if_true];rw[g]at O ⊢;rw[eM]at O ⊢;have N:=Sat.Md (pM s++[oR (D.lb j) 5 [i6 (s.l.gt j).tn,.slice (some ((⟨(s.f j).g,(s.f j).o,none⟩:Addr).add 1)) q.length f] true]) (by rw[dU];exact O);rw[dU]at N;exact N
  obtain⟨a,b⟩:∃a:PS,a={s with f:=upd s.f j f',lq:=upd s.lq j q}:=⟨_,rfl⟩
  have hO1:Sat (E.Ok p) w3 (pM a++(E.me D t::(R++(gS a++E.O p)))):=by
   have h1:=Yo a (k:=j) ξ;have f:gX a j=gX s j:=K3 (by rw[b]) (λi _=>by rw[b]) (λi hi=>by rw[b];simp[upd,hi]) (by rw[b];exact⟨⟨rfl,λ_ _=>rfl⟩,rfl,λ_ _=>rfl⟩) (by rw[b]);rw[show a.k=D by simp_all,show a.f j=f' by rw[b];simp[upd],show a.lq j=q by rw[b];simp[upd],show a.l=s.l by rw[b],f]at h1;have h2:=(Nk.perm (pQ ..).symm);rw[show pM a=pM s by rw[b];rfl];refine h2.perm (eN _ (List.Perm.cons _ (eN _ ?_)));rw[<-dU];exact(h1.append_right _).symm
  have I:PV (E.Ok p) a (bA a):=by
   have f:bA a=bA s:=by rw[b];rfl
   rw[f,b];refine⟨C.pv.jr,C.pv.en,C.pv.eo,λk A g=>?_,λk A y=>?_,C.pv.cx,C.pv.bg⟩
   .have f:k≠j:=λz=>ξ
    simp only[upd,af f];exact C.pv.fb k A g
   .by_cases e:k=j
    .subst e;simp only[upd,if_true];exact YR
    .simp only[upd,af e];exact C.pv.rm k A y
  have g:QI a:=by rw[b];exact{C.qi with}
  have hL:=C.ln j hj hk;rw[hq]at hL;let⟨f,QC⟩:=hL.mem n (bI ..);let⟨u,_,w⟩:=C.ti.wt n f;have l:TI a:=by rw[b];exact{C.ti with}
  have v:a.l=s.l:=by rw[b]
  have hGq:Gq t s a:=by rw[b];exact⟨rfl,rfl,rfl,rfl,rfl,rfl,rfl,rfl,rfl,λ_ _=>⟨_,rfl⟩,⟨rfl,rfl,rfl⟩,λ_ _=>⟨rfl,rfl⟩,⟨rfl,rfl,rfl⟩,λ_=>rfl⟩
  have A:a.k=D:=ξ
  have L:∀k,k≠j->a.lq k=s.lq k:=λk hk=>by rw[b];simp[upd,hk]
  have f:Flat (R++(gS a++E.O p)):=C.fl.left.app (Flat.app (bO.2 (r9 a λr A=>(I.cx r A).2)) C.fl.right);have B:=og a (i:=n) ξ;have G:(pM a++(E.me D t::(R++(gS a++E.O p)))).Perm (pM a++(wR a n++(E.me D t::(R++(wX a n++E.O p))))):=by
   refine List.Perm.trans (eN _ (List.Perm.cons _ (eN _ ?_))) (pQ ..);rw[<-dU];exact B.append_right _
  have w:a.wb=s.wb:=by rw[b]
  refine RM F CJ 31 180 #[ptr (s.wb n)] ρ ρ δ S3 λf f=>?_;rw[<-w];refine N6 F hB (s:=a) (n:=n) (u:=u) (aS:=a.aS u) (b:=⟨0,0,[]⟩) (C:=E.me D t::(R++(wX a n++E.O p))) (l.ca ξ) ξ ξ (hO1.perm G) ((((Gh ξ).pre _).app _).cons) I g ?_ ω (by have s:=g.len;grind) ξ ⟨λh w N u=>f _ _ _ N λH B4 S4 T s=>?_,λhx he i en eb ba bw w hi N w w u=>f _ _ _ N λH B4 S4 T s=>?_⟩
  .have h5:∀r∈wX a n,r.row=none:=λr A=>r9 a (λr A=>(I.cx r A).2) r (B.mem_iff.2 (gF _ A));exact Flat.cons (C.fl.left.app (Flat.app (bO.2 h5) C.fl.right)) rfl
  .refine ZH F hB T S4 5 [] 5 [] [(0,ptr (D.lb j))] 55 5 [] [] [] [] [] λa5 w5 S5 S Y5 Dw qO=>?_;rw[v]at h;have C1:Cn E D t p a w5 R:=⟨S5.sat.perm G.symm,I,g,C.fl,C.eH,ω,C.cp.gq hGq,λk Q y=>by
    rw[v];by_cases e:k=j
    .subst e;rw[show a.lq k=q by rw[b];simp[upd]];exact hL.tail h
    .rw[L k e];exact C.ln k Q y,l⟩
   rw[show pc prog 178 55 (Bo 5) []=pc prog 178 11 [] [] by kernel_rfl];exact ih a w5 a5 B4 (by rw[b];simp[upd]) (v.trans hl) C1 ω S ω S5.env
  .refine ZH F hB T S4 2 [] 7 [] [] 52 7 [] [] [] [] [] λa5 w5 S5 S Y5 Dw qO=>?_;rw[v]at hx he;have x:=YJ (C.ln j hj hk);rw[hq,List.find?_cons_of_pos χ,hl]at x;rw[x]at K;obtain⟨m,o⟩:∃m:PS,m=a.uQ n i en eb ba bw 2 ⟨0,0,[]⟩:=⟨_,rfl⟩;have g:m.l=L0.dg n:=χ
   have f:Sat (E.Ok p) w5 (pM m++(E.me D t::(R++(gS m++E.O p)))):=by
    have h1:=og m (i:=n) (by rw[o];show n<a.l.wl;grind);have h2:(wX m n).Perm (oR ba 0 [ptr a.k.A] false::oR bw 0 [ptr (a.wb n)] false::wX a n):=by rw[o];exact Sc
    have O:Sat (E.Ok p) w5 (pM m++(wR m n++(oR ba 0 [ptr a.k.A] false::oR bw 0 [ptr (a.wb n)] false::(E.me D t::(R++(wX a n++E.O p)))))):=by rw[o];exact S5.sat
    refine O.perm (eN _ ?_);have N:(gS m).Perm (wR m n++(oR ba 0 [ptr a.k.A] false::oR bw 0 [ptr (a.wb n)] false::wX a n)):=h1.trans (h2.append_left _);refine List.Perm.trans ?_ (List.Perm.cons _ (eN _ (N.append_right _))).symm;have h5:=fA (E.me D t::R) (wR m n++[oR ba 0 [ptr a.k.A] false,oR bw 0 [ptr (a.wb n)] false]) (wX a n++E.O p);simpa using h5.symm
   refine K m a5 w5 52 [true,true] [] ρ S ⟨f,χ,χ,C.fl,C.eH,ω,(C.cp.gq hGq).gc (w:=n) (i:=i) (by rw[o];exact⟨rfl,rfl,rfl,rfl,⟨2,_,.inl rfl,rfl⟩,χ,χ,χ,⟨j,χ,χ⟩,⟨rfl,rfl,rfl⟩,rfl⟩),λk Q y=>?_,?_⟩ g ω
   .rw[o];show yV (a.lq k) a.l.wl (a.l.dg n).wt k;rw[v];by_cases e:k=j
    .subst e;rw[show a.lq k=q by rw[b];simp[upd]];exact(hL.uQ n).tail λz=>by have:=z.1;simp[LS.dg,LS.fix,LS.put,upd]at this
    .rw[L k e];exact(C.ln k Q y).uQ n
   .rw[o];refine l.uQ (.inl rfl) λ_ c a z=>?_;have b:=(l.cm n χ c a z).2.1;let⟨k,y1,a⟩:=b;rw[v,QC]at y1;have:k=j:=ω
    grind
def Be(W:jF E D J t)(h:j<D.V.nl)(q:(D.V.ly j).k=5){p:γ}{s:PS}(C:Cn E D t p s w R)(d:qm D.V t s.l){i:Act}{b:Nat}(k:St (E.Ok p) b 39 [(0,ptr (D.lb j)),(1,ptr E.T)] (pM s++(E.me D t::(R++E.P p s))) 0 i w)(a:i.defers=[])(c:w.heap.size=b)(K:∀b g w' n f c,iE (pc prog 178 n f c)=true->g.defers=[]->Cn E D t p b w' R->b.l=s.l.fC t j->w.heap.size<=w'.heap.size->E.Ψ p (G ((baseD 178).at g (pc prog 178 n f c)) (cf::U)) w'):E.Ψ p (G ((baseD 178).at i (pc prog 178 0 [] [])) (cf::U)) w:=by
 have F:=W.f p;have o:=W.hB p;have e:=C.bd;refine ZH F o a k 6 [] 1 [] [(8,ptr E.T),(7,ptr (D.lb j)),(0,ptr (D.lb j))] 6 1 [] [] [] [] [] λa a e a k k k=>RM F a 9 148 #[ptr (D.lb j),ptr E.T,i6 14,i6 0] ρ ρ δ e λa a=>iU W {C with sat:=e.sat,bd:=by omega} d.el (C.eH.lay j h) λl e k e m=>a _ _ _ k.sat λa u p a m=>?_;have m:=k.bd;refine ZH F o a p 4 [] 1 [] [(0,ptr (D.lb j))] 11 1 [] [] [] [] [] λt o m a p p p=>?_;have r:=d.gt j h ω;have p:=r.tn;refine II W h q (L0:=l.l) (w0:=w) (by rw[e];exact d.al) (by rw[e];exact d.now) (by rw[e];show -1000000<(s.l.gt j).tn/\(s.l.gt j).tn<1000000;omega) (λb g w' n f c q p j h d=>K b g w' n f c q p j (by rw[h,e];rfl) d) _ l o t u rfl rfl {k with sat:=m.sat,bd:=by omega} ω a ω m.env
end
def Gj{J:LS->Prop}{L:LS}(a:j<V.nl)(b:(V.ly j).k=5)(h:Fin V J m (some (t,j,none)) L):∃a,m=a+1/\qm V t L/\
 ((L.gt j).tn<(V.ly j).a->Fin V J a (some (t,j+1,none)) ((L.aO j {L.gt j with tn:=(L.gt j).tn+1}).say t j 13 0))/\
 (¬(L.gt j).tn<(V.ly j).a->(V.ly j).b=0->Fin V J a (some (t,j,some (c9 3 j 0))) (L.say t j 7 0))/\
 (¬(L.gt j).tn<(V.ly j).a->¬(V.ly j).b=0->(L.tk t).x=false->Fin V J a none ((L.say t j 12 0).wait t j (V.ly j).b true))/\
 (¬(L.gt j).tn<(V.ly j).a->¬(V.ly j).b=0->(L.tk t).x=true->Fin V J a (some (t,j,some (c9 5 j 0))) ((L.say t j 12 0).say t j 16 0)):=by
 cases m with
 |zero=>exact h.elim
 |succ m=>
  let⟨a,_,_,d,c⟩:=h;have e:(j=V.nl)=False:=θ
  simp only[LS.step,e,if_false,b,af (show¬(5:Int)=1 by decide),af (show¬(5:Int)=3 by decide),af (show¬(5:Int)=4 by decide),if_true,LS.take,LS.nV]at c;refine⟨m,rfl,a,λa=>?_,λa b=>?_,λa b d=>?_,λa b d=>?_⟩
  .simp_all
  .simp_all
  .simp_all
  .rw[af a,af b,sJ d]at c;exact c
def CS{J:LS->Prop}{L:LS}(c:(V.ly j).k=5)(a:(L.tk t).p<=j)(h:Fin V J m (some (t,j+1,some b)) L):∃a,m=a+1/\qm V t L/\G5 b/\Fin V J a (some (t,j,some b)) (L.fC t j):=by
 cases m with
 |zero=>exact h.elim
 |succ m=>
  let⟨_,_,_,a,d⟩:=h;have e:(j+1=(L.tk t).p)=False:=θ
  simp only[LS.step,e,if_false,eM,c,af (show¬(5:Int)=1 by decide),af (show¬(5:Int)=4 by decide),if_true]at d;simp_all
section
variable{J:LS->Prop}
def Im(W:jF E D J t)(H:j<D.V.nl)(hk:(D.V.ly j).k=5){p:γ}{s:PS}{c:aC}(C:Cn E D t p s w R)(hf:Fin D.V J m (some (t,j,none)) s.l)(Ts:m<=E.pS p)(K:∀X p' I w' z,X<m->X<=E.pS p'->Cn E D t p' I w' R->I.l.el<1000000->((z=3/\Fin D.V J X (some (t,j,some (c9 5 j 0))) (I.l.say t j 16 0))\/(z=2/\Fin D.V J X (some (t,j+1,none)) (I.l.say t j 13 0))\/(z=1/\qm D.V t I.l/\Fin D.V J X (some (t,j,some (c9 3 j 0))) (I.l.say t j 7 0)))->(I.l.tk t).a=(s.l.tk t).a->(I.l.tk t).q=(s.l.tk t).q->E.Ψ p' (G (c.finish (i6 z)) U) w'):
 E.Ψ p (G (Frame.enter prog 179 #[ptr (D.lb j),ptr E.T] .normal) (c::U)) w:=by
 have F:=W.f p;have Y:=W.hB p;have c:=C.bd;obtain⟨m0,rfl,hs,I5,YR,Nk,T⟩:=Gj H hk hf;have m:=hs.gt j H ω;have hV:=W.V.ro j H hk;have c:=m.tn;have FT:=C.eH.lay j H;have N:∀g f q,gR (D.V.ly j) (D.lb j) g f q=[oR (D.lb j) 5 [i6 g.tn,su f q.length] true,fR ⟨f.g,f.o,none⟩ 1 f.v (rK f) true]:=λg f q=>by unfold gR;simp_all
 have hO:=C.open H;rw[N]at hO;obtain⟨fv,FV⟩:∃fv,fv=su (s.f j) (s.lq j).length:=⟨_,rfl⟩;rw[<-FV]at hO;have c:=hO.get (r:=oR (D.lb j) 3 [i6 (D.V.ly j).a,i6 (D.V.ly j).b] false) (((C.eH.Kj j H hk).pre _).cons.cons.cons.app (pM s));refine cJ func179 c 52 λZ c c c r qh f S0 c=>?_;by_cases G:(s.l.gt j).tn<(D.V.ly j).a
 .refine oH (λM=>bh 8 (0,0) (i6 (IntKind.wrap .i64 ((s.l.gt j).tn+1))) (M)) 0 F Y r qh f S0 25 [8,0,0,1,0,0,0,1,8,0,0,1,8,0,0,1] 6 [8] 4 (i6 2) 25 3 [8] [] [(decide ((s.l.gt j).tn<(D.V.ly j).a),true)] [] [] λc S1 m q=>?_;have Dz:IntKind.wrap .i64 ((s.l.gt j).tn+1)=(s.l.gt j).tn+1:=aA ω ω;rw[Dz]at S1;have L:Sat (E.Ok p) c (oR (D.lb j) 3 [i6 (D.V.ly j).a,i6 (D.V.ly j).b] false::(pM s++([oR (D.lb j) 5 [i6 ((s.l.gt j).tn+1),fv] true,fR ⟨(s.f j).g,(s.f j).o,none⟩ 1 (s.f j).v (rK (s.f j)) true]++(E.me D t::(R++(gX s j++E.O p)))))):=S1.sat.cast ρ;have C1:=C.shut (ea:=s.ea) (ec:=s.ec) (vv:=s.vv) (f':=s.f j) (L':=s.l.aO j {s.l.gt j with tn:=(s.l.gt j).tn+1}) H (LG.aO _) (w':=c) (by rw[Bu,N,<-FV];exact L.tail) C.pv.jr (λz=>ω) (λ_=>rfl) ω;exact K m0 p _ c 2 ω ω C1 hs.el (.inr (.inl ⟨rfl,I5 G⟩)) rfl rfl
 .by_cases h0:(D.V.ly j).b=0
  .rw[h0]at S0;refine ZI F Y r qh f S0 25 [8,0,0,1,0,0,0,2] 28 [8] 4 (i6 1) 25 6 [8] [] [(decide ((s.l.gt j).tn<(D.V.ly j).a),false)] [] [] λc S1 m q=>?_;have C1:=C.shut (ea:=s.ea) (ec:=s.ec) (vv:=s.vv) (f':=s.f j) (L':=s.l) H LG.bY (w':=c) (by rw[N,<-FV,fU];exact S1.sat.tail) C.pv.jr (λz=>ω) (λ_=>rfl) ω;exact K m0 p _ c 1 ω ω C1 hs.el (.inr (.inr ⟨rfl,hs,YR G h0⟩)) rfl rfl
  .refine TP F Y r f S0 28 [8,0,0,1,0,0,0,2] 16 [8] [(30,ptr E.T),(29,ptr (D.lb j)),(0,ptr (D.lb j)),(1,ptr E.T)] 28 4 [8] [] [((D.V.ly j).b==0,false),(decide ((s.l.gt j).tn<(D.V.ly j).a),false)] [] [] λf c S1 f m q m=>?_;have C1:=C.shut (ea:=s.ea) (ec:=s.ec) (vv:=s.vv) (f':=s.f j) (L':=s.l) H LG.bY (w':=c) (by rw[N,<-FV,fU];exact S1.sat.tail) C.pv.jr (λz=>ω) (λ_=>rfl) ω;rw[fU]at C1;refine ah F r f S1 31 148 #[ptr (D.lb j),ptr E.T,i6 12,i6 0] λc c=>iU W C1 hs.el FT λn w2 C2 O f=>c _ _ _ C2.sat λa2 B2 S2 f c=>?_;have c:=C2.bd;replace O:n.l=s.l.say t j 12 0:=O;have c:=C2.hk;have C:0<=n.l.now/\n.l.now<1000000000000:=by rw[O];exact hs.now
   have rZ:n.l.al<1000000:=by rw[O];exact hs.al
   have c:(n.l.tk t).x=(s.l.tk t).x:=by rw[O];rfl
   let⟨cv,q,ev,g,o,nn,bv,A,tc,ch,m⟩:=vq C2.cp.hT.1;have hm:=C2.mine;rw[m,c]at hm;have back:∀w',Sat (E.Ok p) w' (pM n++([dO E.T cv q (s.l.tk t).x ev,fR ⟨g,o,none⟩ 1 bv nn true,wF E.T A t tc ch]++(E.me D t::(R++(tX n t++E.O p)))))->w2.heap.size<=w'.heap.size->Cn E D t p n w' R:=λw' h g=>{C2 with sat:=Cn.N3 C2.tn ξ,bd:=by omega}
   replace S2:St (E.Ok p) B2 52 _ _ 0 a2 w2:=⟨S2.env,hm.get (r:=oR (D.lb j) 3 [i6 (D.V.ly j).a,i6 (D.V.ly j).b] false) (((((C2.eH.Kj j H hk).pre _).cons).app _).app (pM n)),S2.sz⟩
   by_cases hx:(s.l.tk t).x=true
   .rw[hx]at S2 back;have T:=T G h0 hx;rw[<-O]at T;refine UF F Y r qh f S2 25 [8,0,2,1] 7 [] 4 (i6 3) 41 12 [8] λg m o q=>K m0 p n g 3 ω ω (back g m.sat.tail ω) (JM T) (.inl ⟨rfl,T⟩) (by rw[O];rfl) (by rw[O];rfl)
   replace hx:(s.l.tk t).x=false:=ξ
   rw[hx]at S2 back;have QO:=Nk G h0 hx;rw[<-O]at QO;refine Rb F Y r f S2 29 [8,0,2,1,0,0,1,1] 5 [] [(38,i6 (D.V.ly j).b),(34,ptr E.T),(0,ptr (D.lb j))] 45 8 [8] λf g m f o q o=>?_;have C3:=back g m.sat.tail ω;refine ah F r f m 39 161 #[ptr E.T,i6 (D.V.ly j).b] λf Nv=>lG W C3 rZ C H ⟨hV.2.1,ω⟩ λi x en eb w4 h4 v Q4 T4 hi f c=>?_;obtain⟨d,B⟩:∃d:PS,d=n.cB t j (D.V.ly j).b i x en eb true:=⟨_,rfl⟩;rw[<-B]at h4 v Q4 T4;have Q:d.k=D:=ξ
   have aaK:d.f=n.f:=by rw[B]
   have Qn:d.lq=n.lq:=by rw[B]
   have P:=v.rm j ξ ξ;obtain⟨base,Bl,V⟩:∃base,su (d.f j) (d.lq j).length=.slice base (d.lq j).length (d.f j).c/\((base=some ⟨(d.f j).g,(d.f j).o+0,none⟩/\(d.f j).s=true)\/(base=none/\(d.f j).s=false/\d.lq j=[]/\(d.f j).c=0)):=by
    cases hfs:(d.f j).s with
    |true=>exact⟨_,by unfold su;simp_all,.inl ⟨rfl,rfl⟩⟩
    |false=>
     let⟨z1,z2,z3⟩:=P.nil hfs;exact⟨none,by unfold su;simp_all,.inr ⟨rfl,rfl,z1,z3⟩⟩
   have h5:Sat (E.Ok p) w4 (pM d++([oR (D.lb j) 5 [i6 (d.l.gt j).tn,.slice base (d.lq j).length (d.f j).c] true,fR ⟨(d.f j).g,(d.f j).o,none⟩ 1 (d.f j).v (rK (d.f j)) true]++(E.me D t::(R++(gX d j++E.O p))))):=by
    have L:=Yo d (k:=j) ξ;rw[Q,N,Bl]at L;refine(h4.perm ?_).perm (pQ ..);refine eN _ (List.Perm.cons _ (eN _ ?_));rw[<-dU];exact L.append_right _
   refine Nv _ _ _ h5 λc B4 g c f=>aq (λM=>bR (B4) [ptr x]::(M)) 1 F Y r c g 11 [7,0,1,1] 1 [] [(46,.slice (some ⟨B4,0,none⟩) 1 1),(44,.slice base (List.length (d.lq j)) (d.f j).c),(40,ptr (D.lb j)),(5,ptr x)] 57 8 [8] λc c m Yv c c c=>?_;have hL:=C2.ln j H hk;have c:(d.lq j).length<1000000:=by
    have h6:=oX (hL.pN.imp fun{a b} h=>iS h) λw hw=>(hL.mem w hw).1;have:n.l.wl<1000000:=by rw[O];exact hs.wl
    grind
   have g:(d.lq j).length<=(d.f j).c:=by
    rcases V with z|z
    .exact P.len z.2
    simp_all
   have f:0+(d.f j).c<=rK (d.f j)/\(0<(d.f j).c->rK (d.f j)=0+(d.f j).c):=by
    unfold rK;rcases V with z|z
    .rw[sJ z.2];omega
    omega
   refine Wo t156 δ F Y r 44 46 47 9 0 (g:=(d.f j).g) (o0:=(d.f j).o) (o:=0) (base:=base) (len:=(d.lq j).length) (cap:=(d.f j).c) (y:=ptr x) (v:=(d.f j).v) (n:=rK (d.f j)) ρ ρ δ rfl rfl (V.imp (λz=>z.1) λz=>⟨z.1,rfl,z.2.2.2⟩) rfl f rfl rfl (λba z=>?_) g c ω ω m λg4 b4 c v4 c4 a6 w6 f f h6 z1 z2 z3 f z5 TF DE=>?_
   .rcases V with y|y
    .refine⟨?_,P.ok y.2⟩;have h7:=m.sat.val 9 _ rfl (0,0) ⟨by show 0<rK (d.f j);unfold rK;grind,aD⟩;exact au h7
    simp_all
   obtain rfl:c=0:=ω
   rw[show jB (pc prog 179 57 (Bo 8) [8])=pc prog 179 58 [false,false,false] [8] by kernel_rfl];have S6:St (E.Ok p) w6.heap.size 52 _ _ 0 a6 w6:=⟨TF,h6,rfl⟩;replace S6:=S6.dB [(47,.slice (some ⟨g4,b4,none⟩) ((d.lq j).length+1) c4),(40,ptr (D.lb j)),(5,ptr x)] rfl;replace DE:=DE.trans Yv;generalize YG:w6.heap.size=c at S6;refine aq (λM=>bh 8 (0,1) (.slice (some (Addr.mk g4 b4 none)) (List.length (d.lq j)+1) c4) (M)) 0 F Y r DE S6 7 [8,0,1,1] 1 [] [(50,ptr x)] 65 8 [8] λc w7 S7 c f f f=>GM F r c 51 152 #[ptr x] ρ ρ δ S7 λRU VA=>?_;obtain⟨u,l⟩:∃u:PS,u={d with f:=upd d.f j ⟨true,g4,b4,c4,v4⟩,lq:=upd d.lq j (d.lq j++[n.l.wl])}:=⟨_,rfl⟩;have Q0:u.l=n.l.wait t j (D.V.ly j).b true:=χ
   have m:JL t n u j (D.V.ly j).b i x ⟨0,0,[]⟩ true:=by rw[l,B];exact⟨rfl,rfl,rfl,rfl,(E5 ..).symm,⟨rfl,rfl,rfl⟩,λj H=>af (iS H)⟩
   have Vu:u.f j=⟨true,g4,b4,c4,v4⟩:=by rw[l];simp[upd]
   have Qq:u.lq j=d.lq j++[n.l.wl]:=by rw[l];simp[upd]
   have S:∀k,k≠j->u.f k=d.f k/\u.lq k=d.lq k:=λk h=>by rw[l];simp[upd,h]
   have f:u.k=D:=χ
   have h7:Sat (E.Ok p) w7 (bR B4 [ptr x]::(pM d++([oR (D.lb j) 5 [i6 (d.l.gt j).tn,.slice (some ⟨g4,b4,none⟩) ((d.lq j).length+1) c4] true,fR ⟨g4,b4,none⟩ 1 v4 (0+c4) true]++(E.me D t::(R++(gX d j++E.O p)))))):=S7.sat.cast ρ;have c:Sat (E.Ok p) w7 (pM u++(E.me D t::(R++(gS u++E.O p)))):=by
    have L:=Yo u (k:=j) χ;have g:gX u j=gX d j:=K3 (by rw[l]) (λi _=>by rw[l]) S (by rw[l];exact⟨⟨rfl,λ_ _=>rfl⟩,rfl,λ_ _=>rfl⟩) (by rw[l]);rw[f,N,Vu,Qq,g,show u.l.gt j=d.l.gt j by rw[l]]at L;have g:rK ⟨true,g4,b4,c4,v4⟩=0+c4:=by unfold rK;simp only[if_true];omega
    rw[g]at L;simp only[su,if_true,YA,List.length_singleton]at L;rw[show pM u=pM d by rw[l];rfl];refine(h7.tail.perm (pQ ..).symm).perm ?_;refine eN _ (List.Perm.cons _ (eN _ ?_));rw[<-dU];exact(L.append_right _).symm
   have g:∀k,k<D.V.nl->(D.V.ly k).k=5->(d.f k).s=true->(d.f k).g<x:=λk L h2 h3=>by
    rw[aaK]at h3 ⊢;have:=C3.row L h2 h3;omega
   refine W.wait p n u u w7 i x j (D.V.ly j).b ⟨0,0,[]⟩ true RU _ R m0 C3.cp C3.ti ω (λ_=>H) m (.inl rfl) (by rw[l,B];exact C3.cp.JN) c ?_ ?_ (by rw[l];exact{T4 with}) (λk Q h5=>?_) (λk Q c h6=>?_) (λi hi h6=>?_) C3.fl C3.eH ω χ ω λp' I c X z c Vh C' f1 f2 f3 f4 f5 f6=>VA.ret _ _ _ _ _ C'.sat λc c S8 Nn c=>?_
   .have c:bA u=bA d:=by rw[l];rfl
    rw[c];refine⟨by rw[l];exact v.jr,by rw[l];exact v.en,by rw[l];exact v.eo,λk V5 Ng=>?_,λk V5 Tu=>?_,by rw[l];exact v.cx,by rw[l];exact v.bg⟩
    .have c:k≠j:=λe=>χ
     rw[(S k c).1,show u.l.gt=d.l.gt by rw[l]];exact v.fb k χ χ
    .rw[show u.wb=d.wb by rw[l]];rw[f]at V5 Tu;by_cases e:k=j
     .subst e;rw[Vu,Qq];refine⟨(λz=>by cases z),λ_=>by simpa using z5,λ_ ad wr hb=>?_,λi hi=>?_⟩
      .have LM:ad.block=g4:=hb;rcases z3 with z|z
       .rcases V with y|y
        .rw[y.1]at z;cases z;exact P.ok y.2 ad wr LM
        grind
       grind
      .have c:i<(d.lq k).length+1:=by simpa using hi
       show(v4 i).getD 0 undef=_;by_cases e:i=(d.lq k).length
       .subst e;have:=z2;rw[bK]at this;rw[this];simp[B,upd]
       .have c:i<(d.lq k).length:=ω
        have:=z1 i c;rw[bK]at this;rw[this,P.val i c];have f:(d.lq k++[n.l.wl]).getD i 0=(d.lq k).getD i 0:=by simp[List.getD,nO c]
        rw[f]
     .rw[(S k e).1,(S k e).2];exact v.rm k χ χ
   .rw[l];exact{Q4 with}
   .rw[Q0];have c:(n.l.wait t j (D.V.ly j).b true).wt=upd n.l.wt n.l.wl ⟨t,j,false,false,⟨0,0,[]⟩,0,0⟩:=rfl;have d:(n.l.wait t j (D.V.ly j).b true).wl=n.l.wl+1:=rfl;rw[d,c];by_cases e:k=j
    .subst e;rw[Qq,Qn];refine⟨?_,λw hw=>?_,λw hw hl L h2=>?_⟩
     .rw[YS];exact⟨hL.pN,ψ,λa ha b hb=>by simp at hb;subst hb;exact(hL.mem a ha).1⟩
     .rcases dJ.1 hw with z|z
      .have:=hL.mem w z;exact⟨ω,by simp only[upd];rw[af ω];exact this.2⟩
      .simp at z;subst z;exact⟨ω,by simp[upd]⟩
     .by_cases e:w=n.l.wl
      .simp[e]
      .simp only[upd,af e]at hl L h2;exact gU _ (hL.all w ω hl L h2)
    .rw[(S k e).2,Qn];exact(C2.ln k Q h5).cB χ
   .by_cases e:k=j
    .grind
    grind
   .have a:u.bf=n.bf:=by rw[l,B]
    rw[a]at h6 ⊢;have:=rG C3.sat C3.Ej (j:=i) (by rw[Q0]at hi;exact hi) h6;omega
   .have a:=C'.bd;replace F:=W.f p';replace Y:=W.hB p';have hfo:(z=3/\Fin D.V J X (some (t,j,some (c9 5 j 0))) (I.l.say t j 16 0))\/(z=2/\Fin D.V J X (some (t,j+1,none)) (I.l.say t j 13 0))\/(z=1/\qm D.V t I.l/\Fin D.V J X (some (t,j,some (c9 3 j 0))) (I.l.say t j 7 0)):=by
     rcases f1.2 with ⟨_,z,_⟩|⟨k,Q,Ng,Nj⟩
     .omega
     .rw[f2]at Ng;have:k=j:=ω
      subst this;rcases Nj with z|z|z|z|z|z
      .grind
      .omega
      .exact .inr (.inr ⟨z.2.1,f1.1,z.2.2⟩)
      .grind
      .omega
      .omega
    refine UF F Y r qh Nn S8 2 [] 1 [] 4 (i6 z) 68 8 [8] λa c b b=>K X p' I a z ω Vh {C' with sat:=c.sat,bd:=by omega} f1.1.el hfo (by rw[f4,O];rfl) (by rw[f6,O];rfl)
end
section
variable{J:LS->Prop}
def Mm(W:jF E D J t)(hj:j<D.V.nl)(hk:(D.V.ly j).k=5)(IH:dV E D J t (j+1)):dV E D J t j:=by
 intro m p s w R c U C hf w K;rw[show iq D.V j=177 by unfold iq;grind];have ZG:=AL hf;have F:=W.f p;have x:=W.hB p;have m:=C.bd;have m:=C.sat;refine cJ func177 m 43 λZ m m hn a B m S0 p=>Rb F x a m S0 10 [] 1 [] [(7,ptr E.T),(6,ptr (D.lb j)),(0,ptr (D.lb j)),(1,ptr E.T)] 10 1 [] λm m p m zS Dx o9=>GM F a m 8 179 #[ptr (D.lb j),ptr E.T] ρ ρ δ p λm m=>Im W hj hk {C with sat:=p.sat,bd:=by omega} hf w λm1 p1 O w2 z p Q C1 Ty p V P=>m.ret _ _ _ _ _ C1.sat λa2 m S2 T m=>?_;have m:=C1.bd;replace F:=W.f p1;replace x:=W.hB p1;have I:=C1.eH.lay j hj;rcases p with ⟨rfl,f⟩|⟨rfl,f⟩|⟨rfl,FR,f⟩
 .refine Rb F x a T S2 20 [] 29 [] [(23,ptr E.T),(22,ptr (D.lb j))] 31 6 [] λa3 w3 M u YF yO mH=>ah F a u M 24 159 #[ptr (D.lb j),ptr E.T] λIb g=>wv W {C1 with sat:=M.sat,bd:=by omega} hj Ty λN w4 q y k FO=>g _ _ _ y.sat λa4 B4 S4 o Bj=>?_;have L:=y.bd;refine Rb F x a o S4 5 [] 1 [] [(5,.iface 184 (ptr q)),(4,i6 0)] 37 6 [] λa5 w5 Y l Y5 Dw qO=>cC F Y a B l [] (.tuple #[i6 0,.iface 184 (ptr q)]) ?_;rw[<-k]at f;exact K m1 p1 N w5 [oR q 0 [i6 5,i6 j,i6 0,.nilIface] false] (.inl (.tuple #[i6 0,.iface 184 (ptr q)])) (c9 5 j 0) ω Q {y with sat:=Y.sat,bd:=by omega} f (.inr (.inl ⟨rfl,_,rfl,q,.nilIface,rfl,⟨rfl,0,rfl⟩,rfl⟩)) (λi A=>by rw[k];show(O.l.tk t).a i=_;rw[V]) (λi A=>by rw[k];show(O.l.tk t).q i=_;rw[P])
 .refine Rb F x a T S2 22 [] 21 [] [(30,ptr E.T),(29,ptr (D.lb j)),(0,ptr (D.lb j)),(1,ptr E.T)] 33 4 [] λa3 w3 M u YF yO mH=>ah F a u M 31 148 #[ptr (D.lb j),ptr E.T,i6 13,i6 0] λIb g=>iU W {C1 with sat:=M.sat,bd:=by omega} Ty I λN w4 y k FO=>g _ _ _ (y.sat.get ((I.pre _).cons.app (pM N))) λa4 B4 S4 o Bj=>?_;have L:=y.bd;replace k:N.l=O.l.say t j 13 0:=k;rw[<-k]at f;let⟨ty,m,IZ⟩:=xT D (j+1);rw[m]at S4;unfold dV at IH;generalize iq D.V (j+1)=gf at*;refine Rb F x a o S4 5 [] 1 [] [(33,ptr E.T),(32,ptr (D.lb j)),(0,ptr (D.lb j)),(1,ptr E.T)] 39 4 [] λa5 w5 Y l Y5 Dw qO=>dfy F hn l 178 [ptr (D.lb j),ptr E.T] ρ ρ ρ Y λm d m d XG=>Rb F x a d m 9 [0,0,0,1] 1 [] [(39,ptr E.T),(38,.iface ty (ptr (D.lb (j+1))))] 49 4 [] λd w7 S7 d m m m=>GM F a d 40 gf #[ptr (D.lb (j+1)),ptr E.T] (by rcases IZ with ⟨rfl,rfl⟩|⟨rfl,rfl⟩|⟨rfl,rfl⟩|⟨rfl,rfl⟩|⟨rfl,rfl⟩|⟨rfl,rfl⟩|⟨rfl,rfl⟩<;>kernel_rfl) ρ δ S7 λcf XK=>IH m1 p1 N w7 R cf (c::U) {y with sat:=S7.sat.tail,bd:=by omega} f Q λd p' s' w' X r b d d C' d hr Jc DG=>?_;obtain⟨m2,rfl,CG,m,m⟩:=CS hk (C'.pp W C ZG) d;have d:=C'.bd;replace F:=W.f p';replace x:=W.hB p';have d:(s'.l.fC t j).tk=s'.l.tk:=by unfold LS.fC;split<;>rfl
  have m:∀i,i<j->((s'.l.fC t j).tk t).a i=(s.l.tk t).a i:=λi A=>by rw[d,Jc i ω,k];show(O.l.tk t).a i=_;rw[V]
  have m:∀i,i<j->((s'.l.fC t j).tk t).q i=(s.l.tk t).q i:=λi A=>by rw[d,DG i ω,k];show(O.l.tk t).q i=_;rw[P]
  have Zs:=hr;have d:(∃H e0,r=.inl (.tuple #[i6 H,e0]))\/r=.inr (.iface 182 (i6 b.n)):=by
   rcases hr with ⟨_,h⟩|⟨_,e,h,_⟩|⟨_,h⟩
   .simp_all
   .simp_all
   simp_all
  rcases d with ⟨H,e0,rfl⟩|rfl
  .refine XK.ret _ _ _ _ _ C'.sat λa8 d e S d=>Rb F x a S e 5 [] 1 [] [(5,ev [(4,i6 H),(42,#[i6 H,e0][1]),(41,i6 H),(40,.tuple #[i6 H,e0]),(39,ptr E.T),(38,.iface ty (ptr (D.lb (j+1))))] (Operand.tmp 42)),(4,i6 H)] 55 4 [] λm d d e h h h=>Mj F ρ e XG f178 func178 _ rfl ρ 39 ρ d λDq yU v=>Be W hj hk {C' with sat:=d.sat,bd:=by omega} CG yU v ω λs2 a2 w2 n bs qs q1 q2 q3 q4 q5=>NW F q1 q2 f178 func178 ρ ?_;refine G6 F (a:=⟨m.tmps,[]⟩) (N:=43) ⟨d.env.sz,d.env.val⟩ q3.sat a B rfl [] (.tuple #[i6 H,e0]) ρ ρ ?_;exact K m2 p' s2 w2 X _ b ω ω q3 ξ Zs (λi A=>ξ) (λi A=>ξ)
  .obtain⟨a8,t8,rfl,S,d⟩:=XK.NO;show E.Ψ p' (G ((Z.at a8 t8).raise (je (.iface 182 (i6 b.n)))) (c::U)) w';rw[raise_at hn.m];refine Tc F S XG f178 func178 _ rfl ρ 39 ρ C'.sat λDq c yU v c=>Be W hj hk C' CG yU v c λs2 a2 w2 n bs qs q1 q2 q3 q4 q5=>Xe F q1 q2 f178 func178 ρ ?_;refine F.lJ rfl (by rw[B];rfl) ?_;exact K m2 p' s2 w2 X (.inr (.iface 182 (i6 b.n))) b ω ω q3 ξ Zs (λi A=>ξ) (λi A=>ξ)
 .refine Rb F x a T S2 14 [] 7 [] [(14,ptr E.T),(13,ptr (D.lb j))] 25 3 [] λa3 w3 M u YF yO mH=>ah F a u M 15 167 #[ptr (D.lb j),ptr E.T] λIb g=>rL W {C1 with sat:=M.sat,bd:=by omega} hj FR λN w4 q y k FO=>g _ _ _ y.sat λa4 B4 S4 o Bj=>?_;have L:=y.bd;refine Rb F x a o S4 5 [] 1 [] [(5,.iface 184 (ptr q)),(4,i6 0)] 31 3 [] λa5 w5 Y l Y5 Dw qO=>cC F Y a B l [] (.tuple #[i6 0,.iface 184 (ptr q)]) ?_;rw[<-k]at f;exact K m1 p1 N w5 [oR q 0 [i6 3,i6 j,i6 0,.nilIface] false] (.inl (.tuple #[i6 0,.iface 184 (ptr q)])) (c9 3 j 0) ω Q {y with sat:=Y.sat,bd:=by omega} f (.inr (.inl ⟨rfl,_,rfl,q,.nilIface,rfl,⟨rfl,0,rfl⟩,rfl⟩)) (λi A=>by rw[k];show(O.l.tk t).a i=_;rw[V]) (λi A=>by rw[k];show(O.l.tk t).q i=_;rw[P])
end
def t115:Qc Tryz.prog 130 86 1 8=true:=ρ
def G3.add{c:bU}{f:Fb}(h:G3 I c q f){base:eP}{b m l x:Nat}{a:eX}(p:HB B I)(d:(base=some ⟨f.g,f.o+0,none⟩/\f.s=true)\/(base=none/\f.s=false/\q=[]/\f.c=0))(o:∀j,j<q.length->(a (0+j)).getD 0 undef=(f.v (0+j)).getD 0 undef)(f:(a (0+q.length)).getD 0 undef=ptr (c x))(n:base=some ⟨b,m+0,none⟩\/B<=b)(f:q.length+1<=l):G3 I c (q++[x]) ⟨true,b,m,l,a⟩:=by
 refine⟨(λz=>by cases z),λ_=>ξ,λ_ k wr c=>?_,λi f=>?_⟩
 .have g:k.block=b:=c;rcases n with z|z
  .rcases d with y|y
   .rw[y.1]at z;cases z;exact h.ok y.2 k wr g
   .rw[y.1]at z;cases z
  .exact p k wr ω
 .have b:i<q.length+1:=ξ
  show(a i).getD 0 undef=_;by_cases e:i=q.length
  .simp_all
  .have a:i<q.length:=ω
   have:=o i a;rw[bK]at this;rw[this,h.val i a];simp_all
def G3.base{I:dh}{b:bU}{q:aN}{f:Fb}(h:G3 I b q f):∃base,su f q.length=.slice base q.length f.c/\((base=some ⟨f.g,f.o+0,none⟩/\f.s=true)\/(base=none/\f.s=false/\q=[]/\f.c=0))/\q.length<=f.c/\(0+f.c<=rK f/\(0<f.c->rK f=0+f.c)):=by
 cases a:f.s with
 |true=>exact⟨_,by unfold su;simp_all,.inl ⟨rfl,rfl⟩,h.len a,by unfold rK;grind⟩
 |false=>
  let⟨c,_,b⟩:=h.nil a;exact⟨none,by unfold su;simp_all,.inr ⟨rfl,rfl,c,b⟩,ξ,ω⟩
abbrev XY:Fb:=⟨false,0,0,0,λ_=>[]⟩
abbrev PS.nH(s:PS)(t wn k i T c:Nat)(en:ay)(eb:mW)(u:ay)(ba bt bu bl bc bw:Nat)(f':Fb):PS:={s with en:=en,eb:=eb,q:=s.q.take i++s.l.al::s.q.drop i,cv:=upd s.cv s.l.al (.func (.func 48) #[] #[ptr ba,ptr bt,ptr bu]),cx:=oR ba 0 [ptr s.k.A] false::oR bt 0 [ptr T] false::oR bu 0 [u] false::oR bl 0 [ptr (s.k.lb k)] false::oR bw 0 [ptr (s.wb wn)] false::s.cx,T:=upd s.T s.l.tl T,aS:=upd s.aS s.l.tl c,wk:=upd s.wk s.l.tl u,bf:=upd (upd s.bf s.l.tl XY) t f',bl:=upd (upd s.bl s.l.tl []) t (s.bl t++[s.l.tl]),cm:=upd s.cm wn (some (bc,[i6 0,.nilIface,.nilIface])),l:=s.l.begin t wn k}
section
variable{s:PS}
def QI.nH(Q:QI s)(b:i<=s.q.length)(a:iM (bA s) s.l.now i):QI (s.nH t wn k i T c en eb u ba bt bu bl bc bw f')/\bA (s.nH t wn k i T c en eb u ba bt bu bl bc bw f')=(bA s).take i++(s.l.now,.func (.func 48) #[] #[ptr ba,ptr bt,ptr bu])::(bA s).drop i:=by
 have:=Q.ins (s1:=s.nH t wn k i T c en eb u ba bt bu bl bc bw f') (e:=⟨s.l.now,s.l.tl,0,0,false⟩) b a rfl rfl rfl rfl rfl (.inl rfl) (az _) (λ_ _=>rfl) (λj a=>af a) (λ_ h=>h.cons.cons.cons.cons.cons) (Nat.le_succ _) (λj a=>⟨af (iS a),af (iS a)⟩) ⟨λ_=>⟨s.l.tl,ba,bt,bu,rfl,gr _,sJ rfl,⟨rfl,0,rfl⟩,⟨rfl,1,by simp[nth,upd]⟩,⟨rfl,2,by simp[nth,upd]⟩⟩,λz=>absurd rfl z⟩;refine⟨this.1,this.2.trans ?_⟩;congr 2;unfold fF;simp[LS.begin,LS.put,upd]
def TI.nH(H:TI s)(A:t<s.l.tl)(O:wn<s.l.wl)(K:(s.l.wt wn).t=t)(K:(s.l.wt wn).l=k)(V:k<s.k.V.nl)(W:(s.k.V.ly k).k=6)(K:(s.l.wt wn).x=false)(K:s.cm wn=none)(M:u=.func (.func 185) #[] #[ptr bl,ptr bc,ptr bw]):TI (s.nH t wn k i T c en eb u ba bt bu bl bc bw f'):=by
 have l:∀w,((s.nH t wn k i T c en eb u ba bt bu bl bc bw f').l.wt w).l=(s.l.wt w).l/\((s.nH t wn k i T c en eb u ba bt bu bl bc bw f').l.wt w).t=(s.l.wt w).t/\((s.nH t wn k i T c en eb u ba bt bu bl bc bw f').l.wt w).x=(s.l.wt w).x/\((s.nH t wn k i T c en eb u ba bt bu bl bc bw f').l.wt w).z=(s.l.wt w).z/\((s.nH t wn k i T c en eb u ba bt bu bl bc bw f').l.wt w).b=(s.l.wt w).b:=λw=>by
  by_cases e:w=wn
  .subst e;simp[LS.begin,LS.put,upd]
  .simp[LS.begin,LS.put,upd,e]
 have E:∀j,j<s.l.tl->(s.nH t wn k i T c en eb u ba bt bu bl bc bw f').l.tk j=s.l.tk j:=λj f=>af (iS f);have D:(s.nH t wn k i T c en eb u ba bt bu bl bc bw f').l.tk s.l.tl=⟨(s.l.tk t).c,wn,k+1,-1,false,false,-1,λ_=>0,λ_=>0⟩:=sJ rfl;have up:∀r,Has s.cx r->Has (s.nH t wn k i T c en eb u ba bt bu bl bc bw f').cx r:=λr h=>h.cons.cons.cons.cons.cons;have r:(s.nH t wn k i T c en eb u ba bt bu bl bc bw f').l.tl=s.l.tl+1:=rfl;have r:∀w,w≠wn->(s.nH t wn k i T c en eb u ba bt bu bl bc bw f').cm w=s.cm w:=λw h=>af h;have J:(s.nH t wn k i T c en eb u ba bt bu bl bc bw f').cm wn=some (bc,[i6 0,.nilIface,.nilIface]):=sJ rfl;refine⟨Nat.le_succ_of_le H.nc,λw h=>?_,λw h b G z=>?_,λj f=>?_,λj n p=>?_,λj f=>?_,λj f=>?_,λw h z=>?_,λx n p j w B P=>?_⟩
 .rw[(l w).2.1];let⟨v,n,p⟩:=H.wt w h;grind
 .rw[(l w).1,(l w).2.2.1,(l w).2.2.2.1,(l w).2.2.2.2];by_cases e:w=wn
  .grind
  .rw[r w e]at z;let⟨L,K,r⟩:=H.cm w h b G z;exact⟨L,K,λa b=>(r a b).up up⟩
 .have m:j<s.l.tl+1:=f;by_cases e:j=s.l.tl
  .subst e;rw[D];let⟨v,n,p,r⟩:=H.cl t A;exact⟨v,n,p,λz=>by have:=H.nc;grind⟩
  .rw[E j ω];exact H.cl j ω
 .have m:j<s.l.tl+1:=p;by_cases e:j=s.l.tl
  .subst e;rw[D];refine⟨wn,bl,bc,bw,k,[i6 0,.nilIface,.nilIface],rfl,O,ξ,rfl,V,W,?_,⟨rfl,3,rfl⟩,⟨rfl,4,rfl⟩,J⟩;show upd s.wk s.l.tl u s.l.tl=_;rw[<-M];exact sJ rfl
  .rw[E j ω];let⟨w,J,K,r,I,G,q,o,N,C,M,L,X,W,V,Y⟩:=H.wk j n ω;have F:w≠wn:=λy=>ξ
   refine⟨w,J,K,r,I,G,q,o,ξ,C,M,L,?_,up _ W,up _ V,ξ⟩;show upd s.wk s.l.tl u j=_;rw[<-X];exact af e
 .have m:j<s.l.tl+1:=f;have R:∀j,j<s.l.tl->∀d∈s.bl j,j<d/\d<s.l.tl+1/\s.k.V.nc<=d/\∃w:Nat,((s.nH t wn k i T c en eb u ba bt bu bl bc bw f').l.tk d).f=w/\w<s.l.wl/\((s.nH t wn k i T c en eb u ba bt bu bl bc bw f').l.wt w).t=j:=λj f d g=>by
   let⟨q,o,N,w,C,M,L⟩:=(H.ch j f).2 d g;grind
  by_cases e:j=t
  .subst e;rw[show(s.nH j wn k i T c en eb u ba bt bu bl bc bw f').bl j=s.bl j++[s.l.tl]from sJ rfl];refine⟨YS.2 ⟨(H.ch j A).1,ψ,λa Z b S=>?_⟩,λd g=>?_⟩
   .simp at S;subst S;exact((H.ch j A).2 a Z).2.1
   .rcases dJ.1 g with g|g
    .exact R j A d g
    .simp at g;subst g;exact⟨A,gr _,H.nc,wn,by rw[D],O,ξ⟩
  .by_cases F:j=s.l.tl
   .subst F;have a:(s.nH t wn k i T c en eb u ba bt bu bl bc bw f').bl s.l.tl=[]:=by simp[upd,e]
    simp_all
   .have a:(s.nH t wn k i T c en eb u ba bt bu bl bc bw f').bl j=s.bl j:=by simp[upd,e,F]
    rw[a];exact⟨(H.ch j ω).1,R j ω⟩
 .have m:j<s.l.tl+1:=f;by_cases e:j=s.l.tl
  .simp_all
  .rw[E j ω];exact(H.can j ω).imp id fun⟨w,I,q,o,N,C⟩=>⟨w,I,q,o,ξ,C⟩
 .rw[(l w).2.2.1]at z;rw[(l w).2.2.2.1];exact H.zz w h z
 .have a:x<s.l.tl+1:=p;rw[(l w).2.1]at P;by_cases e:x=s.l.tl
  .subst e;rw[D]at B;have B:(wn:Int)=w:=B;obtain rfl:wn=w:=ω
   obtain rfl:j=t:=ω
   rw[show(s.nH j wn k i T c en eb u ba bt bu bl bc bw f').bl j=s.bl j++[s.l.tl]from sJ rfl];simp
  .rw[E x ω]at B;have Q:=H.al x n ω j w B P;by_cases U:j=t
   .subst U;rw[show(s.nH j wn k i T c en eb u ba bt bu bl bc bw f').bl j=s.bl j++[s.l.tl]from sJ rfl];exact gU _ Q
   .have f:j≠s.l.tl:=λF=>by
     let⟨w',_,_,_,_,_,q,o,_⟩:=H.wk x n ω;obtain rfl:w=w':=ω
     let⟨v,_,a⟩:=H.wt w o;omega
    rw[show(s.nH t wn k i T c en eb u ba bt bu bl bc bw f').bl j=s.bl j by simp[upd,U,f]];exact Q
def tY(s:PS)(t:Nat):List aH:=gA s++(wS s++(((List.range s.l.tl).flatMap λj=>if j=t then[]else j7 s j)++s.cx))
def IK(a:t<s.l.tl):(gS s).Perm (oR s.k.A 2 [i6 s.l.tl] true::(j7 s t++tY s t)):=by
 refine(jw s a).trans ?_;unfold tX tY;exact j8 λf=>χ
def W5(H:TI s)(m:t<s.l.tl)(g:wn<s.l.wl)(p:s.cm wn=none):(gS (s.nH t wn k i T c en eb u ba bt bu bl bc bw f')).Perm (oR s.k.A 2 [i6 ((s.l.tl:Int)+1)] true::wF T s.k.A s.l.tl (s.l.tk t).c c::dO T (.pointer none) (.slice none 0 0) false false::fR ⟨0,0,none⟩ 1 (λ_=>[]) 0 true::oR bc 0 [i6 0,.nilIface,.nilIface] true::oR ba 0 [ptr s.k.A] false::oR bt 0 [ptr T] false::oR bu 0 [u] false::oR bl 0 [ptr (s.k.lb k)] false::oR bw 0 [ptr (s.wb wn)] false::([dO (s.T t) (j9 s.wb (s.l.tk t).o) (su f' ((s.bl t).length+1)) (s.l.tk t).x (s.l.tk t).e,fR ⟨f'.g,f'.o,none⟩ 1 f'.v (rK f') true,wF (s.T t) s.k.A t (s.l.tk t).c (s.aS t)]++tY s t)):=by
 obtain⟨b,a⟩:∃b,b=s.nH t wn k i T c en eb u ba bt bu bl bc bw f':=⟨_,rfl⟩
 have q:∀w,nJ (b.l.wt w)=nJ (s.l.wt w)/\(b.l.wt w).t=(s.l.wt w).t:=λw=>by
  rw[a];by_cases e:w=wn
  .subst e;simp[LS.begin,LS.put,upd,nJ]
  .simp[LS.begin,LS.put,upd,e]
 have l:∀j,j<s.l.tl->b.T j=s.T j/\b.aS j=s.aS j:=λj d=>by rw[a];exact⟨af (iS d),af (iS d)⟩
 have r:∀j,j<s.l.tl->b.l.tk j=s.l.tk j:=λj d=>by rw[a];exact af (iS d)
 have wr:∀w,w<s.l.wl->wR b w=wR s w++(if w=wn then[oR bc 0 [i6 0,.nilIface,.nilIface] true]else[]):=λw h=>by
  let⟨v,o,n⟩:=H.wt w h;unfold wR;rw[(q w).1,(q w).2,n,mY,(l v o).1,show b.wb=s.wb by rw[a]];have:lf b w=lf s w++(if w=wn then[oR bc 0 [i6 0,.nilIface,.nilIface] true]else[]):=by
   unfold lf;rw[show b.cm w=upd s.cm wn (some (bc,[i6 0,.nilIface,.nilIface])) w by rw[a]];by_cases e:w=wn
   .subst e;simp[upd,p]
   .simp[upd,e]
  simp_all
 have h:(wS b).Perm (oR bc 0 [i6 0,.nilIface,.nilIface] true::wS s):=by
  have o:=nI (wR s) (λj=>if j=wn then[]else wR s j) wn (sJ rfl) (λj d=>af d) s.l.wl;have n:=nI (wR b) (λj=>if j=wn then[]else wR b j) wn (sJ rfl) (λj d=>af d) s.l.wl;have e:((List.range s.l.wl).flatMap λj=>if j=wn then[]else wR b j)=(List.range s.l.wl).flatMap λj=>if j=wn then[]else wR s j:=by
   rw[List.flatMap_def,List.flatMap_def];congr 1;simp_all
  rw[sJ g,e,wr wn g,sJ rfl]at n;rw[sJ g]at o;unfold wS;rw[show b.l.wl=s.l.wl by rw[a];rfl];refine n.trans (List.Perm.trans ?_ (o.symm.cons _));simp
 have q:b.l.tl=s.l.tl+1:=by rw[a];rfl
 have p:j7 b t=[dO (s.T t) (j9 s.wb (s.l.tk t).o) (su f' ((s.bl t).length+1)) (s.l.tk t).x (s.l.tk t).e,fR ⟨f'.g,f'.o,none⟩ 1 f'.v (rK f') true,wF (s.T t) s.k.A t (s.l.tk t).c (s.aS t)]:=by
  unfold j7;rw[(l t m).1,(l t m).2,r t m,show b.bf t=f' by rw[a];exact sJ rfl,show b.bl t=s.bl t++[s.l.tl] by rw[a];exact sJ rfl,show b.wb=s.wb by rw[a],show b.k=s.k by rw[a],YA,List.length_singleton]
 have g:s.l.tl≠t:=Nat.ne_of_gt m;have i:j7 b s.l.tl=[dO T (.pointer none) (.slice none 0 0) false false,fR ⟨0,0,none⟩ 1 (λ_=>[]) 0 true,wF T s.k.A s.l.tl (s.l.tk t).c c]:=by
  unfold j7;rw[show b.bf s.l.tl=XY by rw[a];simp[upd,g],show b.bl s.l.tl=[] by rw[a];simp[upd,g],show b.T s.l.tl=T by rw[a];exact sJ rfl,show b.aS s.l.tl=c by rw[a];exact sJ rfl,show b.k=s.k by rw[a],show b.l.tk s.l.tl=⟨(s.l.tk t).c,wn,k+1,-1,false,false,-1,λ_=>0,λ_=>0⟩ by rw[a];exact sJ rfl];rfl
 have m:((List.range s.l.tl).flatMap λj=>if j=t then[]else j7 b j)=(List.range s.l.tl).flatMap λj=>if j=t then[]else j7 s j:=by
  rw[List.flatMap_def,List.flatMap_def];congr 1;refine u7 λj d=>?_;by_cases e:j=t
  .simp_all
  .rw[af e,af e];have c:=aZ.1 d;have d:j≠s.l.tl:=iS c;unfold j7;rw[(l j c).1,(l j c).2,r j c,show b.bf j=s.bf j by rw[a];simp[upd,e,d],show b.bl j=s.bl j by rw[a];simp[upd,e,d],show b.wb=s.wb by rw[a],show b.k=s.k by rw[a]]
 rw[<-a];refine(IK (t:=t) ω).trans ?_;unfold tY;rw[p,q,rj,yZ,m,List.flatMap_singleton,af g,i,show b.k=s.k by rw[a],show gA b=gA s by rw[a];rfl,show b.cx=oR ba 0 [ptr s.k.A] false::oR bt 0 [ptr T] false::oR bu 0 [u] false::oR bl 0 [ptr (s.k.lb k)] false::oR bw 0 [ptr (s.wb wn)] false::s.cx by rw[a]];refine((((h.append_right _).append_left (gA s)).append_left _).cons _).trans ?_;rw[show(((s.l.tl+1:Nat):Nat):Int)=(s.l.tl:Int)+1 by omega];exact j8 λf=>by simp only[List.map_append,nP,uf,List.sum_append,List.sum_cons,List.sum_nil,um,List.nil_append];omega
end
def Sat.aaz{a:Addr}{f:eX}(h:Sat I w M):Sat I w (fR a 1 f 0 true::M):=by
 have c:∀j:Ix,¬(fR a 1 f 0 true).has j:=λj b=>absurd b.1 (uk _);rw[sat_iff]at h ⊢;refine⟨λr a=>?_,iG.2 ⟨λr _ _ j _ b=>absurd b (c j),h.2⟩⟩;rcases ak.1 a with rfl|a
 .exact⟨λj b=>absurd b (c j),λj b=>absurd b (c j),λ_ j _ b=>absurd b (c j),λ_ _ _ z=>by cases z⟩
 simp_all
def PV.okT{Wy:dh}{s:PS}(P:PV I s es)(up:∀(a:Addr)(wr:Bool),a.block≠T->I a wr->Wy a wr)(b:∀a,s.ea=some a->a.block≠T)(b:s.eb.c=1->s.eb.E≠T)(b:∀k,k<s.k.V.nl->(s.k.V.ly k).k=4\/(s.k.V.ly k).k=5->(s.f k).s=true->(s.f k).g≠T)(b:∀j,j<s.l.tl->(s.bf j).s=true->(s.bf j).g≠T):PV Wy s es:=
 ⟨⟨P.jr.row,P.jr.le,P.jr.mx,λa c b wr h=>up b wr ξ (P.jr.PD a c b wr h)⟩,P.en,λc=>⟨(P.eo c).1,λa wr h=>up a wr ω ((P.eo c).2 a wr h)⟩,λk a d=>⟨(P.fb k a d).nil,(P.fb k a d).len,λc b wr h=>up b wr ξ ((P.fb k a d).ok c b wr h),(P.fb k a d).val⟩,λk a d=>⟨(P.rm k a d).nil,(P.rm k a d).len,λc b wr h=>up b wr ξ ((P.rm k a d).ok c b wr h),(P.rm k a d).val⟩,P.cx,λj a=>⟨(P.bg j a).nil,(P.bg j a).len,λc b wr h=>up b wr ξ ((P.bg j a).ok c b wr h),(P.bg j a).val⟩⟩
def On{y:ju}{a:Nat}{g:Gt}{f:Fb}(b:y.k=4):fR ⟨f.g,0,none⟩ 1 f.v (f.o+f.c) true∈gR y a g f q:=by unfold gR;simp_all
def XR{s:PS}(P:PV I s es)(h:Sat I w M)(d:∀r∈gS s,r∈M)(a:k<s.k.V.nl)(b:(s.k.V.ly k).k=4\/(s.k.V.ly k).k=5)(c:(s.f k).s=true):(s.f k).g<w.heap.size:=by
 rcases b with b|e
 .have f:=(P.fb k a b).len c;exact h.blk (d _ (K4 a _ (On b))) (j:=(0,0)) ⟨χ,aD⟩
 .exact BF h d a e c
def pmA{z bl bw bc a k j i h g e d c b:aH}:(z::bw::bl::(P++(k::j::i::h::g::e::([d,c,b]++(a::((bc::bl::bw::R)++(Y++O))))))).Perm (bc::(z::bw::bl::(P++(k::j::i::h::g::e::([d,c,b]++(a::((bl::bw::R)++(Y++O)))))))):=
 j8 λf=>by simp only[List.map_append,nP,List.sum_append,List.sum_cons,um,List.nil_append];omega
def pmB{z bl bw bc a k j i h g e d c b:aH}:(bc::(z::bw::bl::(P++(k::j::i::h::g::e::([d,c,b]++(a::((bl::bw::R)++(Y++O)))))))).Perm (P++(a::((bl::bw::R)++((k::j::i::z::bc::h::e::g::bl::bw::([d,c,b]++Y))++O)))):=
 j8 λf=>by simp only[List.map_append,nP,List.sum_append,List.sum_cons,um,List.nil_append];omega
def Sat.bo{q:Nat}{a:iO}(h:Sat I w (bR q a::M)):Sat I w (oR q 0 a true::M):=
 h.G7 0 rfl (oR q 0 a true) (λj a=>⟨a,ψ,rfl⟩) (λ_=>rfl) rfl
section
variable{J:LS->Prop}
structure Cm(E:TE γ)(D:PK)(t:Nat)(p:γ)(s:PS)(w:aj)(R:aW):Prop where
 sat:Sat (E.Ok p) w (pM s++(E.me D t::(R++E.P p s)))
 pv:PV (E.Ok p) s (bA s)
 qi:QI s
 ti:TI s
 fl:Flat (R++E.O p)
 bd:E.Bd p<=w.heap.size
 hk:s.k=D
 tn:t<s.l.tl
 hT:s.T t=E.T/\s.aS t=E.ch/\(s.l.tk t).c=E.c
 JN:∀j,j<s.l.tl->(s.T j,s.aS j)∈E.Ch p
def Mv(W:jF E D J t){p:γ}{s:PS}(C:Cm E D t p s w (bR bc [i6 0,.nilIface,.nilIface]::oR bl 0 [ptr (D.lb k)] false::oR bw 0 [ptr (s.wb wn)] false::R))(hw:wn<s.l.wl)(Qd:(s.l.wt wn).t=t)(Dy:(s.l.wt wn).l=k)(ZR:k<D.V.nl)(h6:(D.V.ly k).k=6)(hx:(s.l.wt wn).x=false)(XJ:s.cm wn=none)(Yb:s.l.tl<9990)(rZ:s.l.al<1000000)(U5:0<=s.l.now/\s.l.now<1000000000000)(K:∀m i T c en eb ba bt bu f' w',E.O m=E.O p->E.s0 m=E.s0 p->E.pS m=E.pS p->Cm E D t m (s.nH t wn k i T c en eb (.func (.func 185) #[] #[ptr bl,ptr bc,ptr bw]) ba bt bu bl bc bw f') w' (oR bl 0 [ptr (D.lb k)] false::oR bw 0 [ptr (s.wb wn)] false::R)->(f'.g=(s.bf t).g/\(s.bf t).s=true\/w.heap.size<=f'.g)->w.heap.size<=w'.heap.size->E.Ψ m (G (cf.finish (ptr T)) U) w'):
 E.Ψ p (G (Frame.enter prog 184 #[ptr E.T,.func (.func 185) #[] #[ptr bl,ptr bc,ptr bw]] .normal) (cf::U)) w:=by
 have F:=W.f p;have S:=W.hB p;have G:=C.bd;have L:=C.hk;have hA:s.k.A=D.A:=by rw[L]
 let⟨u,O,G,_⟩:=C.ti.cl t C.tn;have G:E.c=u:=by rw[<-C.hT.2.2];exact O
 obtain⟨cv,Z2⟩:∃cv,cv=j9 s.wb (s.l.tk t).o:=⟨_,rfl⟩;have G:=C.pv.bg t C.tn;let⟨base,Bl,P,hle,hnn⟩:=G.base;have hlen:(s.bl t).length<1000000:=by
  have h6:=oX ((C.ti.ch t C.tn).1.imp fun{a b} h=>iS h) λc hc=>((C.ti.ch t C.tn).2 c hc).2.1;omega
 have b:Sat (E.Ok p) w (pM s++(oR s.k.A 2 [i6 s.l.tl] true::([dO E.T cv (.slice base (s.bl t).length (s.bf t).c) (s.l.tk t).x (s.l.tk t).e,fR ⟨(s.bf t).g,(s.bf t).o,none⟩ 1 (s.bf t).v (rK (s.bf t)) true,wF E.T s.k.A t u E.ch]++(E.me D t::((bR bc [i6 0,.nilIface,.nilIface]::oR bl 0 [ptr (D.lb k)] false::oR bw 0 [ptr (s.wb wn)] false::R)++(tY s t++E.O p)))))):=by
  refine C.sat.perm (eN _ ?_);have h1:=IK (s:=s) C.tn;unfold j7 at h1;rw[C.hT.1,C.hT.2.1,O,<-Z2,Bl]at h1;refine(((h1.append_right (E.O p)).append_left _).cons _).trans ?_;exact j8 λf=>by simp only[List.map_append,nP,List.sum_append,List.sum_cons,um,List.nil_append];omega
 have c:Flat ([dO E.T cv (.slice base (s.bl t).length (s.bf t).c) (s.l.tk t).x (s.l.tk t).e,fR ⟨(s.bf t).g,(s.bf t).o,none⟩ 1 (s.bf t).v (rK (s.bf t)) true,wF E.T s.k.A t u E.ch]++(E.me D t::((bR bc [i6 0,.nilIface,.nilIface]::oR bl 0 [ptr (D.lb k)] false::oR bw 0 [ptr (s.wb wn)] false::R)++(tY s t++E.O p)))):=by
  refine(((Flat.cons (C.fl.left.app (Flat.app (bO.2 λr q=>?_) C.fl.right)) rfl).cons rfl).cons rfl).cons rfl;exact r9 s (λr q=>(C.pv.cx r q).2) r ((IK C.tn).mem_iff.2 (aP _ (gF _ q)))
 refine cJ func184 b 29 λZ b b hn v qh b h f=>Rb F S v b h 6 [10,0,0,1,10,0,2,1,10,0,0,1,0,0,0,1] 1 [11] [(16,.func (Fn.func 185) #[] #[ptr bl,ptr bc,ptr bw]),(15,i6 s.l.now),(13,i6 u),(9,ptr s.k.A),(0,ptr E.T)] 6 1 [11] λb b f b h h h=>GM F v b 17 29 #[ptr s.k.A,i6 u,i6 s.l.now,.func (Fn.func 185) #[] #[ptr bl,ptr bc,ptr bw]] ρ ρ δ f λb I7=>AA F S (ff:=185) (k:=s.l.tl) (cl:=u) (es:=bA s) (at':=s.l.now) f.sat C.pv c ω (by rw[jT];exact Nat.lt_of_le_of_lt C.qi.len rZ) ω λba bu aS T bt en eb i c hi UT h2 H b f f f=>?_;rw[jT]at hi;have A:oR T 0 [ptr s.k.A,i6 s.l.tl,i6 u,.chan (some aS)] false∈pM {s with en:=en,eb:=eb}++(oR s.k.A 2 [i6 ((s.l.tl:Int)+1)] true::oR T 0 [ptr s.k.A,i6 s.l.tl,i6 u,.chan (some aS)] false::dO T (.pointer none) (.slice none 0 0) false false::oR ba 0 [ptr s.k.A] false::oR bu 0 [.func (.func 185) #[] #[ptr bl,ptr bc,ptr bw]] false::oR bt 0 [ptr T] false::([dO E.T cv (.slice base (s.bl t).length (s.bf t).c) (s.l.tk t).x (s.l.tk t).e,fR ⟨(s.bf t).g,(s.bf t).o,none⟩ 1 (s.bf t).v (rK (s.bf t)) true,wF E.T s.k.A t u E.ch]++(E.me D t::((bR bc [i6 0,.nilIface,.nilIface]::oR bl 0 [ptr (D.lb k)] false::oR bw 0 [ptr (s.wb wn)] false::R)++(tY s t++E.O p))))):=gF _ (aP _ (bI ..));refine W.born p _ c _ T s.l.tl aS 0 u b ω ω h2 (by rw[<-hA];exact Ek A rfl) λm I hO hs0 Ts b b Hg UC=>?_;have h2':Sat (E.Ok m) c _:=h2.OB (Wy:=E.Ok m) (λr _ j _ o=>I _ _ o λz=>by cases z) λr q b j x o=>I _ _ o λ_=>h2.dj q A b rfl x (j':=(0,3)) ⟨aD,(by decide:3<4)⟩;have Q:∀r∈gS s,r∈pM s++(E.me D t::((bR bc [i6 0,.nilIface,.nilIface]::oR bl 0 [ptr (D.lb k)] false::oR bw 0 [ptr (s.wb wn)] false::R)++E.P p s)):=λr q=>gF _ (aP _ (gF _ (gU _ q)));have l:=PV.okT (Wy:=E.Ok m) (T:=T) H (λa wr hb o=>I a wr o λ_ z=>hb (by rw[z])) (λa ha z=>?_) (λhc z=>?_) (λk hk h45 hs=>?_) (λj x hs=>?_)
 rotate_left
 .rcases H.jr.row with ⟨z1,_⟩|⟨g,z1,z2⟩
  .grind
  .have z1':s.ea=some ⟨g,0,none⟩:=z1;have hv:vR s.ea 5 (λj=>yt (s.l.ev j)) s.l.el s.ec 73∈pM {s with en:=en,eb:=eb}:=by simp[pM]
   refine h2.dj (gU _ hv) A rfl rfl (j:=(0,0)) (j':=(0,0)) ⟨z2,(by decide:0<5)⟩ ⟨aD,(by decide:0<4)⟩ ?_;rw[z1]at ha;cases ha;show((s.ea.getD ⟨0,0,none⟩).add (0*5)).add 0=(⟨T,0+0,none⟩:Addr)
   rw[z1'];show((⟨g,0,none⟩:Addr).add (0*5)).add 0=_;rw[add_add];grind
 .have hn:0<eb.n:=by
   rcases H.en.2 with ⟨_,_,z3⟩|⟨_,_,_,_,_,_,z,_⟩
   .omega
   .exact z
  have hv:eR eb∈pM {s with en:=en,eb:=eb}:=by simp[pM]
  refine h2.dj (gU _ hv) A rfl rfl (j:=(0,0)) (j':=(0,0)) ⟨χ,hn⟩ ⟨aD,(by decide:0<4)⟩ ?_;grind
 .have:=XR C.pv C.sat Q hk h45 hs;grind
 .have:=rG C.sat Q x hs;grind
 replace F:=W.f m;replace S:=W.hB m;refine I7.ret _ _ _ _ _ h2' λb B2 f b c=>aq (λM=>bR (B2) [ptr T]::(M)) 1 F S v b f 11 [13,0,1,1] 1 [] [(24,.slice (some ⟨B2,0,none⟩) 1 1),(22,.slice base (List.length (s.bl t)) (s.bf t).c),(18,ptr E.T),(5,ptr T)] 18 1 [11] λb b c CJ b b b=>?_;have B:=l.bg t C.tn;refine Wo t115 δ F S v 22 24 25 15 0 (g:=(s.bf t).g) (o0:=(s.bf t).o) (o:=0) (base:=base) (len:=(s.bl t).length) (cap:=(s.bf t).c) (y:=ptr T) (v:=(s.bf t).v) (n:=rK (s.bf t)) ρ ρ δ rfl rfl (P.imp (λz=>z.1) λz=>⟨z.1,rfl,z.2.2.2⟩) rfl hnn rfl rfl (λba z=>?_) hle hlen ω ω c λV Y b v4 X a4 w4 c c h4 z1 z2 z3 c z5 KU N=>?_
 .rcases P with y|y
  .refine⟨?_,B.ok y.2⟩;have:=rG C.sat Q C.tn y.2;omega
  grind
 obtain rfl:b=0:=ω
 rw[show jB (pc prog 184 18 (Bo 1) [11])=pc prog 184 19 [] [11] by kernel_rfl];have S4:St (E.Ok m) w4.heap.size 29 _ _ 0 a4 w4:=⟨KU,h4,rfl⟩;replace S4:=S4.dB [(25,.slice (some ⟨V,Y,none⟩) ((s.bl t).length+1) X),(18,ptr E.T),(5,ptr T)] rfl;replace N:=N.trans CJ;generalize Bj:w4.heap.size=b at S4;refine bB (λM=>bh 14 (0,1) (.slice (some (Addr.mk V Y none)) (List.length (s.bl t)+1) X) (M)) 0 F S v qh N S4 9 [14,0,1,1] 1 [] 4 (ptr T) 28 1 [11] λw5 S5 b b=>?_;obtain⟨f',n⟩:∃f':Fb,f'=⟨true,V,Y,X,v4⟩:=⟨_,rfl⟩;have c:rK f'=0+X:=by rw[n];unfold rK;simp only[if_true];omega
 have f:Sat (E.Ok m) w5 (bR B2 [ptr T]::(pM {s with en:=en,eb:=eb}++(oR s.k.A 2 [i6 ((s.l.tl:Int)+1)] true::oR T 0 [ptr s.k.A,i6 s.l.tl,i6 u,.chan (some aS)] false::dO T (.pointer none) (.slice none 0 0) false false::oR ba 0 [ptr s.k.A] false::oR bu 0 [.func (.func 185) #[] #[ptr bl,ptr bc,ptr bw]] false::oR bt 0 [ptr T] false::([dO E.T cv (.slice (some ⟨V,Y,none⟩) ((s.bl t).length+1) X) (s.l.tk t).x (s.l.tk t).e,fR ⟨V,Y,none⟩ 1 v4 (0+X) true,wF E.T s.k.A t u E.ch]++(E.me D t::((bR bc [i6 0,.nilIface,.nilIface]::oR bl 0 [ptr (D.lb k)] false::oR bw 0 [ptr (s.wb wn)] false::R)++(tY s t++E.O p))))))):=S5.sat.cast ρ;let⟨g,h⟩:=C.qi.nH (t:=t) (wn:=wn) (k:=k) (T:=T) (c:=aS) (en:=en) (eb:=eb) (u:=.func (.func 185) #[] #[ptr bl,ptr bc,ptr bw]) (ba:=ba) (bt:=bt) (bu:=bu) (bl:=bl) (bc:=bc) (bw:=bw) (f':=f') hi UT;have b:=C.ti.nH (u:=.func (.func 185) #[] #[ptr bl,ptr bc,ptr bw]) (bl:=bl) (bc:=bc) (i:=i) (T:=T) (c:=aS) (en:=en) (eb:=eb) (ba:=ba) (bt:=bt) (bu:=bu) (bw:=bw) (f':=f') C.tn hw Qd Dy χ χ hx XJ rfl;refine K m i T aS en eb ba bt bu f' w5 hO hs0 Ts ⟨?_,?_,g,b,by rw[hO];exact C.fl.tail,ω,L,BX C.tn,?_,λj x=>?_⟩ ?_ ω
 .have hg:=W5 (k:=k) (i:=i) (T:=T) (c:=aS) (en:=en) (eb:=eb) (u:=.func (.func 185) #[] #[ptr bl,ptr bc,ptr bw]) (ba:=ba) (bt:=bt) (bu:=bu) (bl:=bl) (bc:=bc) (bw:=bw) (f':=f') C.ti C.tn hw XJ;have b:s.k.lb k=D.lb k:=by rw[L]
  have g:su f' ((s.bl t).length+1)=.slice (some ⟨V,Y,none⟩) ((s.bl t).length+1) X:=by rw[n];rfl
  rw[c,g,C.hT.1,C.hT.2.1,O,<-Z2,b]at hg;rw[show f'.g=V by rw[n],show f'.o=Y by rw[n],show f'.v=v4 by rw[n]]at hg;have d1:=(f.tail.get (r:=oR bl 0 [ptr (D.lb k)] false) ⟨rfl,18,rfl⟩).get (r:=oR bw 0 [ptr (s.wb wn)] false) ⟨rfl,20,rfl⟩;have d2:=(Sat.aaz (a:=⟨0,0,none⟩) (f:=λ_=>[]) d1);have d3:=(d2.perm pmA).bo;refine d3.perm ?_;show List.Perm _ (pM {s with en:=en,eb:=eb}++(E.me D t::((oR bl 0 [ptr (D.lb k)] false::oR bw 0 [ptr (s.wb wn)] false::R)++(gS (s.nH t wn k i T aS en eb (.func (.func 185) #[] #[ptr bl,ptr bc,ptr bw]) ba bt bu bl bc bw f')++E.O m))));rw[hO];refine List.Perm.trans ?_ (((((hg.append_right (E.O p)).append_left (oR bl 0 [ptr (D.lb k)] false::oR bw 0 [ptr (s.wb wn)] false::R)).cons (E.me D t)).append_left (pM {s with en:=en,eb:=eb}))).symm;exact pmB
 .rw[h];have hTc:∀j,j<s.l.tl->∀d∈s.bl j,upd s.T s.l.tl T d=s.T d:=λj x d b=>af (iS ((C.ti.ch j x).2 d b).2.1);refine⟨l.jr,l.en,l.eo,l.fb,l.rm,λr q=>?_,λj x=>?_⟩
  .simp only[ak]at q;rcases q with rfl|rfl|rfl|rfl|rfl|q
   .simp
   .simp
   .simp
   .simp
   .simp
   .exact C.pv.cx r q
  .have V9:j<s.l.tl+1:=x;show G3 (E.Ok m) (upd s.T s.l.tl T) (upd (upd s.bl s.l.tl []) t (s.bl t++[s.l.tl]) j) (upd (upd s.bf s.l.tl XY) t f' j);by_cases e:j=t
   .subst e;simp only[upd,if_true];rw[n];refine(B.wb (Xp:=upd s.T s.l.tl T) (hTc j C.tn)).add (B:=B2) (base:=base) (λa wr hb=>S a wr ω) P z1 ?_ (z3.imp id λz=>z.1) z5;rw[z2];simp[upd]
   .by_cases e2:j=s.l.tl
    .simp only[upd,af e,sJ e2];exact⟨λ_=>⟨rfl,rfl,rfl⟩,(λz=>by cases z),(λz=>by cases z),(λi hi=>by cases hi)⟩
    .simp only[upd,af e,af e2];exact(l.bg j χ).wb (hTc j ω)
 .have b:upd s.T s.l.tl T t=s.T t:=af (iS C.tn);have e2:upd s.aS s.l.tl aS t=s.aS t:=af (iS C.tn);have a:(s.l.begin t wn k).tk t=s.l.tk t:=af (iS C.tn);show upd s.T s.l.tl T t=_/\upd s.aS s.l.tl aS t=_/\((s.l.begin t wn k).tk t).c=_;rw[b,e2,a];exact C.hT
 .have V9:j<s.l.tl+1:=x;show(upd s.T s.l.tl T j,upd s.aS s.l.tl aS j)∈_;by_cases e:j=s.l.tl
  .subst e;simp only[upd,if_true];exact Hg
  .simp only[upd,af e];exact UC _ (C.JN j ω)
 grind
end
section
variable{J:LS->Prop}
def pmC{W X:aW}{c b:aH}:(P++(W++(a::b::(c::(R++(X++O)))))).Perm (P++(c::(R++((W++(a::b::X))++O)))):=
 j8 λf=>χ
def Oh(W:jF E D J t){p:γ}{s:PS}(C:Cn E D t p s w R)(g:n<s.l.wl)(q:∃k:Nat,(s.l.wt n).l=k/\k<D.V.nl)(v:z=2\/z=3)(M:z=2->∀c o,s.cm n=some (c,o)->WA s.cx (.agg o.toArray) b)(B:s.l.al<1000000)(y:0<=s.l.now/\s.l.now<1000000000000){c:aC}(K:∀o w' r,Cn E D t p o w' R->o.l=s.l.qA n z b->o.T=s.T->o.wb=s.wb->w.heap.size<=w'.heap.size->E.Ψ p (G (c.finish (.bool r)) U) w'):
 E.Ψ p (G (Frame.enter prog 181 #[ptr (s.wb n),i6 z] .normal) (c::U)) w:=by
 have F:=W.f p;have N:=W.hB p;have A:=C.bd;have c:=C.hk;let⟨u,x,o⟩:=C.ti.wt n g;have c:=og s (i:=n) g;have G:(pM s++(E.me D t::(R++(gS s++E.O p)))).Perm (pM s++(wR s n++(E.me D t::(R++(wX s n++E.O p))))):=by
  refine List.Perm.trans (eN _ (List.Perm.cons _ (eN _ ?_))) (pQ ..);rw[<-dU];exact c.append_right _
 refine Rs F N (n:=n) (u:=u) (aS:=s.aS u) (b:=b) (C:=E.me D t::(R++(wX s n++E.O p))) v (C.ti.ca g) g o (C.sat.perm G) ((((Gh x).pre _).app _).cons) C.pv C.qi ?_ A (Nat.lt_of_le_of_lt C.qi.len B) y ⟨λh m l f=>?_,λH I i en eb ba bw m o l j L f=>?_⟩
 .have o:∀r∈wX s n,r.row=none:=λr q=>r9 s (λr q=>(C.pv.cx r q).2) r (c.mem_iff.2 (gF _ q));exact Flat.cons (C.fl.left.app (Flat.app (bO.2 o) C.fl.right)) rfl
 .exact K s m false {C with sat:=l.perm G.symm,bd:=by omega} (af h).symm rfl rfl f
 .obtain⟨d,a⟩:∃d:PS,d=s.uQ n i en eb ba bw z b:=⟨_,rfl⟩
  rw[<-a]at l j L;have o:d.l=s.l.fix n z b:=by rw[a]
  have c:Sat (E.Ok p) m (pM d++(E.me D t::(R++(gS d++E.O p)))):=by
   have p:=og d (i:=n) (by rw[a];exact g);have q:(wX d n).Perm (oR ba 0 [ptr s.k.A] false::oR bw 0 [ptr (s.wb n)] false::wX s n):=by rw[a];exact Sc
   refine l.perm (pmC.trans (eN _ ?_));exact(List.Perm.cons _ (eN _ ((p.trans (q.append_left _)).append_right _))).symm
  refine K d m true ⟨c,j,L,C.fl,C.eH,ω,C.cp.gc (w:=n) (i:=i) (by rw[a];exact⟨rfl,rfl,rfl,rfl,⟨z,b,v,rfl⟩,g,H,I,ξ,⟨rfl,rfl,rfl⟩,rfl⟩),λk d c=>?_,by rw[a];exact C.ti.uQ v M⟩ (o.trans (sJ ⟨H,I⟩).symm) (by rw[a]) (by rw[a]) f;rw[a];show yV (s.lq k) s.l.wl (s.l.fix n z b).wt k;have h:=C.ln k d c;have e:∀w,((s.l.fix n z b).wt w).l=(s.l.wt w).l/\(((s.l.fix n z b).wt w).x=false->(s.l.wt w).x=false)/\((s.l.fix n z b).wt w).e=(s.l.wt w).e:=λw=>by
   simp only[LS.fix,LS.put,upd];grind
  exact⟨h.pN,λw a=>⟨(h.mem w a).1,by rw[(e w).1];exact(h.mem w a).2⟩,λw p q a l=>h.all w p ξ ((e w).2.1 a) ξ⟩
def Ym(W:jF E D J t){p:γ}{s:PS}(C:Cn E D t p s w R)(d:n<s.l.wl)(j:∃k:Nat,(s.l.wt n).l=k/\k<D.V.nl)(k:∀c a,s.cm n=some (c,a)->WA s.cx (.agg a.toArray) b)(f:s.l.al<1000000)(e:0<=s.l.now/\s.l.now<1000000000000){c:aC}(K:∀a w' r,Cn E D t p a w' R->a.l=s.l.qA n 2 b->w.heap.size<=w'.heap.size->E.Ψ p (G (c.finish (.bool r)) U) w'):
 E.Ψ p (G (Frame.enter prog 180 #[ptr (s.wb n)] .normal) (c::U)) w:=by
 have F:=W.f p;have g:=W.hB p;have a:=C.bd;have a:=C.sat;refine cJ func180 a 5 λZ a a a a c b i h=>Rb F g a b i 7 [] 1 [] [(3,ptr (s.wb n))] 7 1 [] λb b h b i i i=>ah F a b h 4 181 #[ptr (s.wb n),i6 2] λb b=>Oh W {C with sat:=h.sat,bd:=by omega} d j (.inl rfl) (λ_=>k) f e λf d r d h _ _ e=>b _ _ _ d.sat λb b i b e=>?_;have e:=d.bd;refine UF F g a c b i 2 [] 1 [] 2 (.bool r) 10 1 [] λa c b b=>K f a r {d with sat:=c.sat,bd:=by omega} h ω
def Cn.ZY{p:γ}{s s':PS}(C:Cn E D t p s w R)(b:j<s.l.tl){x e:Bool}(a:s'={s with l:={s.l with tk:=upd s.l.tk j {s.l.tk j with x:=x,e:=e}}})(k:j≠t->e=(s.l.tk j).e)(h:Sat (E.Ok p) w' (pM s++([dO (s.T j) (j9 s.wb (s.l.tk j).o) (su (s.bf j) (s.bl j).length) x e,fR ⟨(s.bf j).g,(s.bf j).o,none⟩ 1 (s.bf j).v (rK (s.bf j)) true,wF (s.T j) s.k.A j (s.l.tk j).c (s.aS j)]++(E.me D t::(R++(tX s j++E.O p))))))(f:w.heap.size<=w'.heap.size):Cn E D t p s' w' R:=by
 have c:∀i,(s'.l.tk i).c=(s.l.tk i).c/\(s'.l.tk i).f=(s.l.tk i).f/\(s'.l.tk i).p=(s.l.tk i).p/\(s'.l.tk i).o=(s.l.tk i).o:=λi=>by
  rw[a];by_cases e:i=j
  .subst e;simp[upd]
  .simp[upd,e]
 have m:j7 s' j=[dO (s.T j) (j9 s.wb (s.l.tk j).o) (su (s.bf j) (s.bl j).length) x e,fR ⟨(s.bf j).g,(s.bf j).o,none⟩ 1 (s.bf j).v (rK (s.bf j)) true,wF (s.T j) s.k.A j (s.l.tk j).c (s.aS j)]:=by
  rw[a];unfold j7;simp[upd]
 have l:tX s' j=tX s j:=by
  unfold tX;have:((List.range s'.l.tl).flatMap λi=>if i=j then[]else j7 s' i)=(List.range s.l.tl).flatMap λi=>if i=j then[]else j7 s i:=by
   rw[show s'.l.tl=s.l.tl by rw[a]];congr 1;funext i;by_cases e:i=j
   .simp_all
   .rw[af e,af e,a];unfold j7;simp[upd,e]
  rw[this,a];rfl
 have b:Sat (E.Ok p) w' (pM s'++(E.me D t::(R++E.P p s'))):=by
  have d:=((jw s' (i:=j) ξ).append_right (E.O p)).append_left (E.me D t::R);rw[m,l,dU]at d;rw[show pM s'=pM s by rw[a];rfl];refine h.perm (eN _ ?_);refine List.Perm.trans ?_ d.symm;exact fA _ (E.me D t::R) _
 refine⟨b,by rw[a];exact{C.pv with},by rw[a];exact{C.qi with},C.fl,C.eH,aT C.bd f,C.cp.gq ⟨by rw[a],by rw[a],by rw[a],by rw[a],by rw[a],by rw[a],by rw[a],by rw[a],by rw[a],λi g=>?_,⟨(c t).1,(c t).2.1,(c t).2.2.1⟩,λ_ _=>ξ,ξ,λ_=>by rw[a]⟩,by rw[a];exact C.ln,C.ti.cg (by rw[a]) ξ ξ c⟩;rw[a];by_cases e:i=j
 .subst e;refine⟨x,?_⟩;simp only[upd,if_true];rw[k g]
 .exact⟨(s.l.tk i).x,by simp[upd,e]⟩
def Cn.its{p:γ}{s:PS}(C:Cn E D t p s w R)(a:j<s.l.tl):Sat (E.Ok p) w (pM s++(j7 s j++(E.me D t::(R++(tX s j++E.O p))))):=by
 refine C.sat.perm (eN _ ?_);have h:=((jw s a).append_right (E.O p)).append_left (E.me D t::R);rw[dU]at h;refine(List.Perm.trans (l₂:=(E.me D t::R)++(gS s++E.O p)) (.refl _) h).trans ?_;exact fA ..
def RV(W:jF E D J t){p:γ}{s:PS}(C:Cn E D t p s w R)(i:j<s.l.tl)(v:s.l.al<1000000)(u:0<=s.l.now/\s.l.now<1000000000000){c:aC}(K:∀d w',Cn E D t p d w' R->d.l=s.l.jv j->d.T=s.T->w.heap.size<=w'.heap.size->E.Ψ p (G (c.finish (.tuple #[])) U) w'):
 E.Ψ p (G (Frame.enter prog 188 #[ptr (s.T j)] .normal) (c::U)) w:=by
 have F:=W.f p;have x:=W.hB p;have c:=C.bd;have f:=C.its i;obtain⟨l,b⟩:∃l,l=su (s.bf j) (s.bl j).length:=⟨_,rfl⟩;unfold j7 at f;rw[<-b]at f;have back:∀w',Sat (E.Ok p) w' (pM s++([dO (s.T j) (j9 s.wb (s.l.tk j).o) l (s.l.tk j).x (s.l.tk j).e,fR ⟨(s.bf j).g,(s.bf j).o,none⟩ 1 (s.bf j).v (rK (s.bf j)) true,wF (s.T j) s.k.A j (s.l.tk j).c (s.aS j)]++(E.me D t::(R++(tX s j++E.O p)))))->w.heap.size<=w'.heap.size->Cn E D t p s w' R:=λw' h c=>by
  refine{C with sat:=?_,bd:=by omega};have y:=((jw s i).append_right (E.O p)).append_left (E.me D t::R);unfold j7 at y;rw[dU,<-b]at y;refine h.perm (eN _ (List.Perm.trans ?_ y.symm));exact fA _ (E.me D t::R) _
 rcases C.ti.can j i with p|⟨n,k,p,q,B,E⟩
 .have d:j9 s.wb (s.l.tk j).o=.pointer none:=by rw[p];rfl
  rw[d]at f back;refine cJ func188 f 12 λZ H I A a e c w m=>Rb F x a c w 10 [7,0,0,1] 5 [] [] 10 2 [] λG i h b l o t=>cC F h a e b [] (.tuple #[]) ?_;exact K s i (back i h.sat ω) (by unfold LS.jv;simp_all) rfl ω
 .have d:j9 s.wb (s.l.tk j).o=ptr (s.wb n):=by rw[p];rfl
  rw[d]at f back;refine cJ func188 f 12 λZ H I A a e c w m=>Rb F x a c w 14 [7,0,0,1,7,0,0,1] 7 [] [(10,ptr (s.wb n))] 14 3 [] λG i h b l o t=>?_;have c:=back i h.sat ω;refine ah F a b h 11 181 #[ptr (s.wb n),i6 3] λb g=>Oh W c q ⟨k,B,by rw[<-C.hk];exact E⟩ (.inr rfl) (b:=⟨0,0,[]⟩) (λz=>by cases z) v u λi b r d k c _ b=>g _ _ _ d.sat λb b h b g=>?_;have g:=d.bd;refine Rb F x a b h 1 [] 1 [] [] 16 3 [] λb h g b j j j=>cC F g a e b [] (.tuple #[]) ?_;exact K i h {d with sat:=g.sat,bd:=by omega} (by rw[k];unfold LS.jv;grind) c ω
end
section
variable{J:LS->Prop}
def rB(E:TE γ)(D:PK)(t:Nat):Prop:=∀(p:γ)(s:PS)(w:aj)(R:aW)(j0:Nat)(c:aC)(U:cO),Cn E D t p s w R->j0<s.l.tl->D.V.nc<=j0->s.l.tl<9990->
 (∀g u n cap w',n<1000000->Cn E D t p s w' (tR g u n::R)->(∃oL:List Nat,wu D.V s.l (·=j0) oL/\oL.length=n/\∀i,i<n->u i=s.T (oL.getD i 0))->w.heap.size<=w'.heap.size->E.Ψ p (G (c.finish (.slice (some g) n cap)) U) w')->
 E.Ψ p (G (Frame.enter prog 187 #[ptr (s.T j0)] .normal) (c::U)) w
def RS(L:LS)(j:Nat):(L.iC j).al=L.al/\(L.iC j).now=L.now/\(L.iC j).tl=L.tl:=by unfold LS.iC;grind
def EF(l:aN):∀L:LS,(l.foldl LS.iC L).al=L.al/\(l.foldl LS.iC L).now=L.now/\(l.foldl LS.iC L).tl=L.tl:=by
 induction l with
 |nil=>simp
 |cons a l b=>
  intro L;have b:=RS L a;simp_all
def aaT(W:jF E D J t){p:γ}{g:Addr}{u:bU}(x:n<1000000)(a:bU)(hu:∀i,i<n->u i=Tf (a i)){L0:LS}(P:∀i,i<n->a i<L0.tl)(hn:O0 Z 142)(K:∀b w' A x,Cn E D t p b w' (tR g u n::R)->b.l=((List.range n).map a).foldl LS.iC L0->b.T=Tf->A.defers=[]->w'.heap.size=x->w0.heap.size<=x->St (E.Ok p) x 33 [(11,i6 n),(10,i6 n),(9,.slice (some g) n cap),(2,.slice (some g) n cap)] (pM b++(E.me D t::((tR g u n::R)++E.P p b))) 0 A w'->E.Ψ p (G (Z.at A (pc prog 142 15 [] [])) (cf::U)) w'):
 ∀(d i:Nat)(s:PS)(w:aj)(N:Act)(o:Nat),d+i=n->Cn E D t p s w (tR g u n::R)->s.l=((List.range i).map a).foldl LS.iC L0->s.T=Tf->N.defers=[]->w.heap.size=o->w0.heap.size<=o->St (E.Ok p) o 33 [(11,i6 i),(10,i6 n),(9,.slice (some g) n cap),(2,.slice (some g) n cap)] (pM s++(E.me D t::((tR g u n::R)++E.P p s))) 0 N w->E.Ψ p (G (Z.at N (pc prog 142 15 [] [])) (cf::U)) w:=by
 intro d;have F:=W.f p;have Q:=W.hB p;have m:=hn.k;induction d with
 |zero=>
  grind
 |succ d V=>
  intro i s w N o d C X Y G d r K;have d:=C.bd;have x:i<n:=ω
  have I:=P i x;have d:s.l.tl=L0.tl:=by rw[X];exact(EF _ _).2.2
  rw[<-d]at I;refine TP F Q m G K 14 [8,i,0,101] 26 [] [(4,ptr (u i)),(11,i6 i),(10,i6 n),(9,.slice (some g) n cap),(2,.slice (some g) n cap)] 29 3 [] [] [(decide ((↑i:Int)<(↑n:Int)),true)] [((↑i:Int),n)] [(1,(i,n))] λa1 T j z d d d=>?_;rw[hu i x,<-Y]at j;have d:Cn E D t p s T (tR g u n::R):={C with sat:=j.sat,bd:=by omega};have O:=d.its I;obtain⟨S,k⟩:∃S,S=su (s.bf (a i)) (s.bl (a i)).length:=⟨_,rfl⟩;unfold j7 at O;rw[<-k]at O;replace j:St (E.Ok p) o 33 _ _ 0 a1 T:=⟨j.env,O,j.sz⟩;have d:wp i=((i+1:Nat):Int):=j6;have c:((List.range (i+1)).map a).foldl LS.iC L0=s.l.iC (a i):=by rw[rj,List.map_append,List.foldl_append,<-X];rfl
  have dB:∀{B A w' b},St (E.Ok p) B 33 [(11,i6 ((i+1:Nat):Int)),(10,i6 n),(9,.slice (some g) n cap),(2,.slice (some g) n cap)] (pM s++([dO (s.T (a i)) (j9 s.wb (s.l.tk (a i)).o) S true (s.l.tk (a i)).e,fR ⟨(s.bf (a i)).g,(s.bf (a i)).o,none⟩ 1 (s.bf (a i)).v (rK (s.bf (a i))) true,wF (s.T (a i)) s.k.A (a i) (s.l.tk (a i)).c (s.aS (a i))]++(E.me D t::((tR g u n::R)++(tX s (a i)++E.O p))))) 0 A w'->w.heap.size<=w'.heap.size->b={s with l:={s.l with tk:=upd s.l.tk (a i) {s.l.tk (a i)with x:=true,e:=(s.l.tk (a i)).e}}}->Cn E D t p b w' (tR g u n::R):=λh w x=>C.ZY I x (λ_=>rfl) (by rw[<-k];exact h.sat) w;by_cases y:(s.l.tk (a i)).e=true
  .rw[y]at j;refine Rb F Q m z j 17 [7,0,3,1] 5 [] [(11,i6 (wp i)),(10,i6 n),(9,.slice (some g) n cap),(2,.slice (some g) n cap)] 46 5 [] λL q f l w x B=>?_;rw[d]at f;rw[show pc prog 142 46 (Bo 5) []=pc prog 142 15 [] [] by kernel_rfl];have H:Cn E D t p s q (tR g u n::R):=by
    have h:=C.ZY (s':={s with l:={s.l with tk:=upd s.l.tk (a i) {s.l.tk (a i)with x:=(s.l.tk (a i)).x,e:=(s.l.tk (a i)).e}}}) I rfl (λ_=>rfl) (w':=q) (by rw[<-k,y];exact f.sat) ω;have e:({s with l:={s.l with tk:=upd s.l.tk (a i) {s.l.tk (a i)with x:=(s.l.tk (a i)).x,e:=(s.l.tk (a i)).e}}}:PS)=s:=by
     have:upd s.l.tk (a i) {s.l.tk (a i)with x:=(s.l.tk (a i)).x,e:=(s.l.tk (a i)).e}=s.l.tk:=fU _ _;rw[this]
    grind
   exact V (i+1) s q L o ω H (by rw[c];unfold LS.iC;grind) Y l ω r ⟨f.env,H.sat,f.sz⟩
  .replace y:(s.l.tk (a i)).e=false:=χ
   rw[y]at j;refine aq (λM=>bh 7 (0,2) (.bool true) (M)) 0 F Q m z j 22 [7,0,3,1,7,0,2,1] 7 [] [(11,i6 (wp i)),(10,i6 n),(9,.slice (some g) n cap),(2,.slice (some g) n cap)] 51 7 [] λL q f l w x B=>?_;rw[d]at f;rw[show pc prog 142 51 (Bo 7) []=pc prog 142 15 [] [] by kernel_rfl];obtain⟨b,v⟩:∃b:PS,b={s with l:={s.l with tk:=upd s.l.tk (a i) {s.l.tk (a i)with x:=true,e:=(s.l.tk (a i)).e}}}:=⟨_,rfl⟩;have H:=@dB _ L q _ ⟨f.env,by rw[y];exact f.sat.cast ρ,f.sz⟩ ω v;exact V (i+1) b q L o ω H (by rw[c,v];unfold LS.iC;grind) χ l ω r ⟨f.env,H.sat,f.sz⟩
def Ju(L:LS)(j:Nat):(L.jv j).now=L.now/\(L.jv j).tl=L.tl/\(L.jv j).al<=L.al+1:=by
 unfold LS.jv LS.qA;split
 .omega
 .split
  .exact⟨rfl,rfl,az _⟩
  omega
def aaS(W:jF E D J t){p:γ}{g:Addr}{u:bU}(M:n<1000000)(b:bU)(Q:∀i,i<n->u i=Tf (b i)){L0:LS}(v:∀i,i<n->b i<L0.tl)(M:∀i,i<=n->(((List.range i).map b).foldl LS.jv L0).al<1000000)(M:0<=L0.now/\L0.now<1000000000000)(N:O0 Z 142)(K:∀M w',Cn E D t p M w' (tR g u n::R)->M.l=((List.range n).map b).foldl LS.jv L0->w0.heap.size<=w'.heap.size->E.Ψ p (G (cf.finish (.tuple #[])) U) w'):
 ∀(d i:Nat)(s:PS)(w:aj)(h:Act)(j:Nat),d+i=n->Cn E D t p s w (tR g u n::R)->s.l=((List.range i).map b).foldl LS.jv L0->s.l.tl=L0.tl/\s.l.now=L0.now->s.T=Tf->h.defers=[]->w.heap.size=j->w0.heap.size<=j->St (E.Ok p) j 33 [(26,i6 i),(25,i6 n),(24,.slice (some g) n cap)] (pM s++(E.me D t::((tR g u n::R)++E.P p s))) 0 h w->E.Ψ p (G (Z.at h (pc prog 142 30 [false] [])) (cf::U)) w:=by
 intro d;have F:=W.f p;have A:=W.hB p;have a:=N.k;have x:=N.f;induction d with
 |zero=>
  intro i s w h j S C r k z e m q I;have:i=n:=ω
  subst this;have y:=C.bd;have p:decide ((i:Int)<(i:Int))=false:=ψ
  refine TP F A a e I 7 [] 4 [] [] 37 4 [] [] [(decide ((↑i:Int)<(↑i:Int)),false)] [] [] λT L f c l o B=>cC F f a x c [] (.tuple #[]) ?_;exact K s L {C with sat:=f.sat,bd:=by omega} r ω
 |succ d P=>
  intro i s w h j S C r k z e m q I;have y:=C.bd;have d:i<n:=ω
  have O:=v i d;rw[<-k.1]at O;refine TP F A a e I 17 [8,i,0,101] 26 [] [(30,ptr (u i)),(26,i6 i),(25,i6 n),(24,.slice (some g) n cap)] 47 6 [] [] [(decide ((↑i:Int)<(↑n:Int)),true)] [((↑i:Int),n)] [(1,(i,n))] λT L f c l o B=>?_;rw[Q i d,<-z]at f;have d:wp i=((i+1:Nat):Int):=j6;have e:((List.range (i+1)).map b).foldl LS.jv L0=s.l.jv (b i):=by rw[rj,List.map_append,List.foldl_append,<-r];rfl
  refine ah F a c f 31 188 #[ptr (s.T (b i))] λb b=>RV W {C with sat:=f.sat,bd:=by omega} O χ ω λl c e m c j=>b _ _ _ e.sat λb p o b j=>?_;have j:=e.bd;refine Rb F A a b o 7 [] 1 [] [(26,i6 (wp i)),(25,i6 n),(24,.slice (some g) n cap)] 55 6 [] λj b H a g g g=>?_;rw[d]at H;rw[show pc prog 142 55 (Bo 6) []=pc prog 142 30 [false] [] by kernel_rfl];exact P (i+1) l b j p ω {e with sat:=H.sat,bd:=by omega} ξ (by rw[m];exact⟨(Ju _ _).2.1.trans k.1,(Ju _ _).1.trans k.2⟩) (c.trans z) a ω ω H
def Mu(L:LS)(j:Nat):L.al<=(L.jv j).al:=by
 unfold LS.jv LS.qA;split
 .omega
 .split
  .exact Nat.le_succ _
  omega
def I0(l:aN):∀L:LS,L.al<=(l.foldl LS.jv L).al:=by
 induction l with
 |nil=>simp
 |cons a l b=>exact λL=>aT (Mu L a) (b _)
def Jn(W:jF E D J t)(M:rB E D t){p:γ}{s:PS}(C:Cn E D t p s w R)(o:j0<s.l.tl)(m:D.V.nc<=j0)(l:s.l.tl<9990)(b:0<=s.l.now/\s.l.now<1000000000000)(r:∀a:List Nat,wu D.V s.l (·=j0) a->(s.l.cancel a).al<1000000){c:aC}(K:∀b w' a,Cn E D t p b w' R->wu D.V s.l (·=j0) a->b.l=s.l.cancel a->w.heap.size<=w'.heap.size->E.Ψ p (G (c.finish (.tuple #[])) U) w'):
 E.Ψ p (G (Frame.enter prog 142 #[ptr (s.T j0)] .normal) (c::U)) w:=by
 have F:=W.f p;have v:=W.hB p;have b:=C.bd;have b:=C.sat;refine cJ func142 b 33 λZ b b z d b b B x=>Rb F v d b B 3 [] 1 [] [(7,ptr (s.T j0))] 3 1 [] λb G B b x x x=>ah F d b B 8 187 #[ptr (s.T j0)] λx b=>M p s G R j0 x (c::U) {C with sat:=B.sat,bd:=by omega} o m l λg u n cap c k y c l=>b _ _ _ y.sat λb N L q b=>?_;have b:=y.bd;obtain⟨f,j,h⟩:∃f:Nat->Nat,(∀i,i<n->u i=s.T (f i)/\f i<s.l.tl/\D.V.nc<=f i)/\wu D.V s.l (·=j0) ((List.range n).map f):=by
  obtain⟨a,A,rfl,I⟩:=c;have e:(List.range a.length).map (λi=>a.getD i 0)=a:=List.ext_getElem? λi=>by
   by_cases b:i<a.length
   .simp[ni,b]
   .simp[b]
  refine⟨λi=>a.getD i 0,λi b=>⟨I i b,A.mem _ ?_⟩,by rw[e];exact A⟩;show a.getD i 0∈a;rw[ni,mZ b];exact List.getElem_mem b
 refine Rb F v d q L 11 [] 1 [] [(11,i6 0),(10,i6 n),(9,.slice (some g) n cap),(2,.slice (some g) n cap)] 15 1 [] λx m q e a a a=>?_;have C3:Cn E D t p s m (tR g u n::R):={y with sat:=q.sat,bd:=by omega};refine aaT W k f (Tf:=s.T) (L0:=s.l) (w0:=w) (λi b=>(j i b).1) (λi b=>(j i b).2.1) z (λo a a y p a l c t t t=>?_) n 0 s m x N (jI _) C3 rfl rfl e ω ω q;have e:=p.bd;have e:decide ((n:Int)<(n:Int))=false:=ψ
 have H:=EF ((List.range n).map f) s.l;rw[<-a]at H;refine TP F v d c t 15 [] 4 [] [(26,i6 0),(25,i6 n),(24,.slice (some g) n cap)] 30 2 [] [] [(decide ((↑n:Int)<(↑n:Int)),false)] [] [] λt q m e c c c=>aaS W k f (Tf:=s.T) (L0:=o.l) (w0:=w) (λi b=>(j i b).1) (λi b=>χ) (λi b=>?_) ω z (λi f j d c=>K i f _ (Cn.drop (X:=[tR g u n]) j C.eH) h (by rw[d,a];rfl) c) n 0 o q t y (jI _) {p with sat:=m.sat,bd:=by omega} rfl ⟨rfl,rfl⟩ l e ω ω (m.dB [(26,i6 ((0:Nat):Int)),(25,i6 n),(24,.slice (some g) n cap)] rfl);have c:=r _ h;refine Nat.lt_of_le_of_lt ?_ c;unfold LS.cancel;rw[<-a,<-Nat.add_sub_of_le b,List.range_add,List.map_append,List.foldl_append];exact I0 _ _
end
def Pz{J:LS->Prop}{L:LS}(a:j<V.nl)(b:(V.ly j).k=6)(h:Fin V J m (some (t,j,none)) L):∃a,m=a+1/\qm V t L/\
 ((L.tk t).x=true->Fin V J a (some (t,j,some (c9 5 j 0))) (L.say t j 16 0))/\
 ((L.tk t).x=false->Fin V J a none ((L.wait t j (V.ly j).a true).begin t L.wl j)):=by
 cases m with
 |zero=>exact h.elim
 |succ m=>
  let⟨_,_,_,a,c⟩:=h;have e:(j=V.nl)=False:=θ
  simp only[LS.step,e,if_false,b,af (show¬(6:Int)=1 by decide),af (show¬(6:Int)=3 by decide),af (show¬(6:Int)=4 by decide),af (show¬(6:Int)=5 by decide),if_true,LS.uX,LS.drop]at c;grind
def Yu.own{C:aW}:∀{ch:List iN}{e:ay},Yu C e ch->∃X:List aH,(∀r∈X,Has C r/\r.row=none)/\Yu X e ch
 |[],_,c=>⟨[],(λr a=>by cases a),c⟩
 |x::ch,_,⟨q,b,f,c,d⟩=>by
  let⟨X,_,c⟩:=d.own;exact⟨oR q 0 [i6 x.k,i6 x.l,i6 x.n,b] false::X,λr a=>by
   grind,q,b,f,⟨rfl,0,rfl⟩,c.up λr a=>a.cons⟩
def Sat.RI{I:dh}{w:aj}{M:aW}(h:Sat I w M):∀X:List aH,(∀r∈X,Has M r)->Sat I w (X++M)
 |[],_=>h
 |r::X,a=>(Sat.RI h X λr b=>a r (aP _ b)).get ((a r (bI ..)).app X)
def PB(F:aB prog main (DX I) Ψ)(s:HB B I){a:ay}(p:Sat I w M)(c:B<=w.heap.size)(c:WA C a b)(K:∀w' r,Sat I w' M->w.heap.size<=w'.heap.size->Ov C r b->Ψ (G (ends cf r) U) w'):
 Ψ (G (Frame.enter prog 144 #[a] .normal) (cf::U)) w:=by
 rcases c with ⟨l,rfl⟩|⟨l,q,rfl,u⟩|⟨l,rfl⟩
 .refine cJ func144 p 13 λZ t g o a e d n j=>aq (λM=>bR (g) [i6 b.n,.nilIface,.nilIface]::(M)) 1 F s a d n 19 [0,0,2,1,0,0,0,2] 5 [5] [(3,.nilIface),(2,i6 b.n)] 19 2 [5] λr h f c i k m=>cC F f a e c [] (.tuple #[i6 b.n,.nilIface]) ?_;exact K h (.inl (.tuple #[i6 b.n,.nilIface])) f.sat.tail ω (.inl ⟨l,rfl⟩)
 .refine cJ func144 p 13 λZ t g o a e d n j=>aq (λM=>bR (g) [i6 0,.iface 184 (ptr q),.nilIface]::(M)) 1 F s a d n 19 [0,0,2,1,0,0,0,2] 5 [5] [(3,.iface 184 (ptr q)),(2,i6 0)] 19 2 [5] λr h f c i k m=>cC F f a e c [] (.tuple #[i6 0,.iface 184 (ptr q)]) ?_;exact K h (.inl (.tuple #[i6 0,.iface 184 (ptr q)])) f.sat.tail ω (.inr (.inl ⟨l,_,rfl,u⟩))
 .refine cJ func144 p 13 λZ t g o a e d n j=>aq (λM=>bR (g) [i6 0,.nilIface,.iface 182 (i6 b.n)]::(M)) 1 F s a d n 17 [0,0,2,1,0,0,2,1] 7 [] [(8,.iface 182 (i6 b.n)),(1,ptr g)] 17 3 [] λr h f c i k m=>ZK F o 182 (i6 b.n) ρ f144 func144 c f ?_;exact K h (.inr (.iface 182 (i6 b.n))) f.sat.tail ω (.inr (.inr ⟨l,rfl⟩))
section
variable{J:LS->Prop}
def Ye(W:jF E D J t)(B:rB E D t){p:γ}{s:PS}(C:Cn E D t p s w R)(A:j<D.V.nl)(l:qm D.V t s.l)(o:j0<s.l.tl)(n:D.V.nc<=j0)(y:∀b:List Nat,wu D.V s.l (·=j0) b->Fin D.V J m (some (t,j,some (c9 4 j 0))) ((s.l.say t j 15 0).cancel b)){c:aC}(K:∀g w' q,Cn E D t p g w' (oR q 0 [i6 4,i6 j,i6 0,.nilIface] false::R)->Fin D.V J m (some (t,j,some (c9 4 j 0))) g.l->(∃b,g.l=(s.l.say t j 15 0).cancel b)->w.heap.size<=w'.heap.size->E.Ψ p (G (c.finish (.tuple #[i6 0,.iface 184 (ptr q)])) U) w'):
 E.Ψ p (G (Frame.enter prog 186 #[ptr (D.lb j),ptr E.T,ptr (s.T j0)] .normal) (c::U)) w:=by
 have F:=W.f p;have v:=W.hB p;have c:=C.bd;have g:=C.sat;have c:=C.eH.lay j A;refine cJ func186 g 21 λZ g g g d u g q p=>Rb F v d g q 11 [] 1 [] [(11,ptr E.T),(10,ptr (D.lb j)),(0,ptr (D.lb j)),(2,ptr (s.T j0))] 11 1 [] λg g p g q q q=>ah F d g p 12 148 #[ptr (D.lb j),ptr E.T,i6 15,i6 0] λg g=>CL W {C with sat:=p.sat,bd:=by omega} l.el c λp p q h p t=>g _ _ _ q.sat λg g w g t=>?_;have t:=q.bd;refine Rb F v d g w 4 [] 1 [] [(13,ptr (s.T j0)),(0,ptr (D.lb j))] 16 1 [] λg g t g w w w=>ah F d g t 14 142 #[ptr (s.T j0)] λg g=>?_;rw[<-p];refine Jn W B {q with sat:=t.sat,bd:=by omega} (by rw[h];exact o) n (by rw[h];exact l.tl) (by rw[h];exact l.now) (λb a=>?_) λk l b e a x l=>g _ _ _ (e.sat.get ((c.pre _).cons.app (pM k))) λc i z r c=>?_
 .rw[h]at a ⊢;have:=y b ⟨a.nd,a.mem,a.ro,a.cl,a.so⟩;cases m with
  |zero=>exact this.elim
  |succ m=>exact this.1.al
 have c:=e.bd;let⟨_,c,_⟩:=xT D (j+1);rw[c]at z;refine aq (λM=>bR (i) [i6 4,i6 j,i6 0,.nilIface]::(M)) 1 F v d r z 45 [0,0,1,1] 1 [] [(7,.iface 184 (ptr i)),(6,i6 0)] 29 1 [] λc l g c m m m=>cC F g d u c [] (.tuple #[i6 0,.iface 184 (ptr i)]) ?_;rw[h]at x a;have f:=y b ⟨a.nd,a.mem,a.ro,a.cl,a.so⟩;rw[<-x]at f;exact K k l i ⟨((Sat.BC (A:=[oR i 0 [i6 4,i6 j,i6 0,.nilIface] false]) g.sat.fix).perm (gY (A:=pM k))),e.pv,e.qi,e.fl.cons rfl,e.eH.cons,ω,e.cp,e.ln,e.ti⟩ f ⟨b,x⟩ ω
end
section
variable{J:LS->Prop}
def Cn.N2{p:γ}{s:PS}(C:Cn E D t p s w R)(X:aW)(c:∀r∈X,r.row=none)(h:Sat (E.Ok p) w' (X++(pM s++(j7 s t++(E.me D t::(R++(tX s t++E.O p)))))))(b:w.heap.size<=w'.heap.size):Cn E D t p s w' (X++R):=by
 refine C.more X c (h.perm (eN X (eN _ ?_))) b;have a:=((jw s C.tn).append_right (E.O p)).append_left (E.me D t::R);rw[dU]at a;refine List.Perm.trans ?_ a.symm;exact fA (j7 s t) (E.me D t::R) (tX s t++E.O p)
def pmD{Z:aW}{d b c:aH}:(c::(P++(d::((a::b::R)++Z)))).Perm (P++(d::((a::b::c::R)++Z))):=
 j8 λf=>χ
def Ld{L:LS}{w:Nat}(h:yV q L.wl L.wt k):yV q (L.begin t w j).wl (L.begin t w j).wt k:=by
 have e:∀i,((L.begin t w j).wt i).l=(L.wt i).l/\((L.begin t w j).wt i).x=(L.wt i).x/\((L.begin t w j).wt i).e=(L.wt i).e:=λi=>by
  simp only[LS.begin,LS.put,upd];grind
 exact⟨h.pN,λi a=>⟨(h.mem i a).1,by rw[(e i).1];exact(h.mem i a).2⟩,λi a b b b=>h.all i a ξ ξ ξ⟩
def FD(a:aN)(L:LS)(t:Nat):((L.cancel a).tk t).a=(L.tk t).a/\((L.cancel a).tk t).q=(L.tk t).q:=by
 have a:∀(l:aN)(L:LS),((l.foldl LS.iC L).tk t).a=(L.tk t).a/\((l.foldl LS.iC L).tk t).q=(L.tk t).q:=by
  intro l;induction l with
  |nil=>simp
  |cons x l b=>
   intro L;have:((L.iC x).tk t).a=(L.tk t).a/\((L.iC x).tk t).q=(L.tk t).q:=by
    unfold LS.iC;split
    .simp
    .by_cases e:t=x
     .subst e;simp[upd]
     .simp[upd,e]
   simp_all
 have a:∀(l:aN)(L:LS),(l.foldl LS.jv L).tk=L.tk:=by
  intro l;induction l with
  |nil=>simp
  |cons x l b=>
   intro L;have:(L.jv x).tk=L.tk:=by
    unfold LS.jv LS.qA;split
    .rfl
    .split<;>rfl
   simp_all
 unfold LS.cancel;simp_all
def Ll(W:jF E D J t)(FC:rB E D t)(hj:j<D.V.nl)(hk:(D.V.ly j).k=6):dV E D J t j:=by
 intro m p s w R c U C hf m K;rw[show iq D.V j=183 by unfold iq;grind];have F:=W.f p;have Y:=W.hB p;have m:=C.bd;obtain⟨m0,rfl,hs,Tz,QM⟩:=Pz hj hk hf;have m:=W.V.li j hj hk;have m:=C.eH.Tn j hj hk;let⟨_,w,ev,_,o,g,bv,A,tc,ch,VW⟩:=vq C.cp.hT.1;have hm:=C.mine;rw[VW]at hm;have g:=hm.get (r:=oR (D.lb j) 3 [i6 (D.V.ly j).a] false) ((((m.pre _).cons).app _).app (pM s));refine cJ Tryz.func183 g 50 λZ g a hn d qh g S0 m=>?_;by_cases hx:(s.l.tk t).x=true
 .have Tz:=Tz hx;rw[hx]at S0 VW;refine aq (λM=>bR (a) [ptr (D.lb j)]::(M)) 1 F Y d g S0 32 [9,0,2,1,0,0,0,1] 7 [] [(14,ptr E.T),(13,ptr (D.lb j))] 19 3 [] λa1 m S1 Nt o w o9=>?_;have C1:Cn E D t p s m ([bR a [ptr (D.lb j)]]++R):=C.N2 [bR a [ptr (D.lb j)]] (λr hr=>ξ) (by rw[VW];exact Sat.BC (A:=[_]) S1.sat) ω;refine ah F d Nt S1 15 159 #[ptr (D.lb j),ptr E.T] λyS I7=>wv W (Cn.drop C1 C.eH) hj hs.el λs4 w4 q C4 e4 FO=>I7 _ _ _ C4.sat λa4 B4 S4 Vx Bj=>?_;have VH:=C4.bd;refine Rb F Y d Vx S4 5 [] 1 [] [(5,.iface 184 (ptr q)),(4,i6 0)] 25 3 [] λa5 w5 S5 Yv Y5 Dw qO=>cC F S5 d qh Yv [] (.tuple #[i6 0,.iface 184 (ptr q)]) ?_;rw[<-e4]at Tz;exact K m0 p s4 w5 [oR q 0 [i6 5,i6 j,i6 0,.nilIface] false] (.inl (.tuple #[i6 0,.iface 184 (ptr q)])) (c9 5 j 0) ω ω {C4 with sat:=S5.sat,bd:=by omega} Tz (.inr (.inl ⟨rfl,_,rfl,q,.nilIface,rfl,⟨rfl,0,rfl⟩,rfl⟩)) (λi H=>by rw[e4];rfl) (λi H=>by rw[e4];rfl)
 replace hx:(s.l.tk t).x=false:=ξ
 have QM:=QM hx;rw[hx]at S0 VW;refine aq (λM=>bR (a+1) [i6 0,.nilIface,.nilIface]::(bR (a) [ptr (D.lb j)]::(M))) 2 F Y d g S0 38 [9,0,2,1,1,0,0,1,2,0,0,1] 5 [] [(22,i6 (D.V.ly j).a),(18,ptr E.T),(6,ptr (a+1)),(2,ptr a),(1,ptr E.T)] 25 2 [] λa1 m S1 Nt o w o9=>?_;have C1:Cn E D t p s m ([bR (a+1) [i6 0,.nilIface,.nilIface],oR a 0 [ptr (D.lb j)] false]++R):=C.N2 [bR (a+1) [i6 0,.nilIface,.nilIface],oR a 0 [ptr (D.lb j)] false] (λr hr=>by simp at hr;rcases hr with rfl|rfl<;>rfl) (by rw[VW];exact Sat.BC (A:=[_,_]) (Sat.yg [_] S1.sat)) ω;refine ah F d Nt S1 23 161 #[ptr E.T,i6 (D.V.ly j).a] λyS I7=>lG W C1 hs.al hs.now hj ⟨ω,ω⟩ λi x en eb g h2 Uz Q2 T2 H g g=>I7 _ _ _ h2 λg n S2 DF g=>?_;obtain⟨l,P⟩:∃l:PS,l=s.cB t j (D.V.ly j).a i x en eb true:=⟨_,rfl⟩;rw[<-P]at h2 Uz Q2 T2 S2;have m:l.k=D:=by rw[P];exact C.hk
 have I:l.l=s.l.wait t j (D.V.ly j).a true:=by rw[P]
 have Xj:l.wb s.l.wl=x:=by rw[P];exact sJ rfl
 refine aq (λM=>bR (n) [ptr x]::(M)) 1 F Y d DF S2 7 [0,0,0,1] 1 [] [(25,.func (Fn.func 185) #[] #[ptr a,ptr (a+1),ptr n]),(24,ptr E.T),(7,ptr n),(6,ptr (a+1)),(2,ptr a),(1,ptr E.T)] 33 2 [] λg w A o g g g=>?_;have g:Sat (E.Ok p) w (pM l++(E.me D t::((bR (a+1) [i6 0,.nilIface,.nilIface]::oR a 0 [ptr (D.lb j)] false::oR n 0 [ptr (l.wb s.l.wl)] false::R)++E.P p l))):=by
  rw[Xj];exact A.sat.fix.perm pmD
 have u:l.l.tl=s.l.tl:=by rw[I];rfl
 have Q3:l.T=s.T/\l.aS=s.aS:=ξ
 have C3:Cm E D t p l w (bR (a+1) [i6 0,.nilIface,.nilIface]::oR a 0 [ptr (D.lb j)] false::oR n 0 [ptr (l.wb s.l.wl)] false::R):=⟨g,Uz,Q2,T2,((C.fl.cons rfl).cons rfl).cons rfl,ω,m,by rw[u];exact C.tn,by rw[Q3.1,Q3.2];refine⟨C.cp.hT.1,C.cp.hT.2.1,?_⟩;rw[I];simp only[LS.wait,LS.cB,LS.put,upd,if_true];exact C.cp.hT.2.2,λj hj=>by rw[Q3.1,Q3.2];exact C.cp.JN j ω⟩;refine GM F d o 26 184 #[ptr E.T,.func (Fn.func 185) #[] #[ptr a,ptr (a+1),ptr n]] ρ ρ δ A λg Nv=>Mv W C3 (wn:=s.l.wl) (k:=j) (by rw[I];exact gr _) (by rw[I];simp[LS.wait,LS.cB,LS.put,upd]) (by rw[I];simp[LS.wait,LS.cB,LS.put,upd]) hj hk (by rw[I];simp[LS.wait,LS.cB,LS.put,upd]) (by rw[P];exact sJ rfl) (by rw[u];exact hs.tl) (by
  rw[I];have:((s.l.wait t j (D.V.ly j).a true).begin t s.l.wl j).al<1000000:=by
   cases m0 with
   |zero=>exact QM.elim
   |succ m0=>exact QM.1
  exact Nat.lt_of_succ_lt this) (by rw[I];exact hs.now) λp' i2 T cc g m ba bt bu f' w4 o hs0 o C4 hfg FO=>Nv.ret _ _ _ _ _ C4.sat λa4 B4 S4 Vx Bj=>?_
 obtain⟨N,CG⟩:∃N:PS,N=l.nH t s.l.wl j i2 T cc g m (.func (.func 185) #[] #[ptr a,ptr (a+1),ptr n]) ba bt bu a (a+1) n f':=⟨_,rfl⟩;have B:Cm E D t p' N w4 (oR a 0 [ptr (D.lb j)] false::oR n 0 [ptr (l.wb s.l.wl)] false::R):=ξ
 replace S4:St (E.Ok p') B4 50 [(26,ptr T),(7,ptr n),(6,ptr (a+1)),(2,ptr a),(1,ptr E.T)] (pM N++(E.me D t::((oR a 0 [ptr (D.lb j)] false::oR n 0 [ptr (l.wb s.l.wl)] false::R)++E.P p' N))) 0 a4 w4:=⟨(S4.dB [(26,ptr T),(7,ptr n),(6,ptr (a+1)),(2,ptr a),(1,ptr E.T)] rfl).env,B.sat,S4.sz⟩;rw[Xj]at S4 B;have VH:=B.bd;replace F:=W.f p';replace Y:=W.hB p';refine Rb F Y d Vx S4 6 [9,0,0,1] 1 [] [(27,ptr x),(8,ptr T),(6,ptr (a+1)),(2,ptr a),(1,ptr E.T)] 40 2 [] λa5 w5 S5 Yv Y5 Dw qO=>GM F d Yv 28 152 #[ptr x] ρ ρ δ S5 λLO ZT=>?_;obtain⟨Z8,JY⟩:∃Z8:PS,Z8={l with cm:=upd l.cm s.l.wl (some (a+1,[i6 0,.nilIface,.nilIface]))}:=⟨_,rfl⟩
 have o:JL t s Z8 j (D.V.ly j).a i x ⟨0,0,[]⟩ true:=by
  rw[JY,P];refine⟨rfl,rfl,rfl,rfl,(E5 ..).symm,⟨rfl,rfl,rfl⟩,λi H=>?_⟩;show upd (upd s.cm s.l.wl none) s.l.wl _ i=s.cm i;simp[upd,iS H]
 have m:Gm Z8 N:=.inr ⟨by rw[JY];show l.l.tl<9990;rw[u];exact hs.tl,t,s.l.wl,j,i2,T,cc,_,by rw[CG,JY];exact⟨rfl,rfl,rfl,rfl,rfl,⟨rfl,rfl,rfl⟩,rfl⟩⟩;have Qp:N.l=(s.l.wait t j (D.V.ly j).a true).begin t s.l.wl j:=ξ
 have Rf:N.T s.l.tl=T:=by rw[CG];show upd l.T l.l.tl T s.l.tl=T;rw[u];exact sJ rfl
 have aaD:N.l.tl=s.l.tl+1:=by rw[Qp];rfl
 have g:Cp E D t p' s:=⟨by rw[hs0];exact C.cp.gu,C.cp.hk,C.cp.tn,C.cp.hT,C.cp.mo,λi H=>by
  have:=B.JN i ω;have p:N.T i=s.T i:=by rw[CG];show upd l.T l.l.tl T i=_;rw[u,Q3.1];exact af (iS H)
  have e2:N.aS i=s.aS i:=by rw[CG];show upd l.aS l.l.tl cc i=_;rw[u,Q3.2];exact af (iS H)
  simp_all⟩
 refine W.wait p' s Z8 N w5 i x j (D.V.ly j).a ⟨0,0,[]⟩ true LO _ (oR a 0 [ptr (D.lb j)] false::oR n 0 [ptr x] false::R) m0 g C.ti ω (λ_=>hj) o m B.JN S5.sat B.pv B.qi B.ti (λk g m=>?_) (λk g m h6=>?_) (λi H h6=>?_) B.fl C.eH.cons.cons ω ξ ω λO f w6 m' z o Vh C' f1 f2 f3 f4 f5 f6=>ZT.ret _ _ _ _ _ C'.sat λa6 B6 S6 DE o=>?_
 .rw[Qp,show N.lq=s.lq by simp_all];have:=C.lnw (ly:=j) (d:=(D.V.ly j).a) (b:=⟨0,0,[]⟩) (cb:=true) (λ_=>ω) k g m;rw[E5]at this;exact Ld this
 .rw[show N.f=s.f by simp_all]at h6 ⊢;have:=C1.row g m h6;omega
 .have old:∀i,i<s.l.tl->(s.bf i).s=true->(s.bf i).g<x:=λi H h=>by
   have:=rG C1.sat C1.Ej H h;omega
  have eb:N.bf=upd (upd s.bf s.l.tl XY) t f':=ξ
  rw[eb]at h6 ⊢;by_cases e:i=t
  .simp only[upd,sJ e]at h6 ⊢;rcases hfg with ⟨y1,y2⟩|y
   .rw[show l.bf=s.bf by rw[P]]at y1 y2;rw[y1];have:=old t C.tn y2;omega
   .omega
  .by_cases e2:i=s.l.tl
   .simp only[upd,af e,sJ e2]at h6;cases h6
   .simp only[upd,af e,af e2]at h6 ⊢;grind
 have g:=C'.bd;replace F:=W.f O;replace Y:=W.hB O;let⟨Z5,hzx⟩:=f5;have m:(z=3/\Fin D.V J m' (some (t,j,some (c9 5 j 0))) (f.l.say t j 16 0))\/(z=1/\∀oL:List Nat,wu D.V f.l (λx=>(f.l.tk x).f=s.l.wl) oL->Fin D.V J m' (some (t,j,some (c9 4 j 0))) ((f.l.say t j 15 0).cancel oL))\/(z=2/\Fin D.V J m' (some (t,j,some (f.l.wt s.l.wl).b)) f.l):=by
  rcases f1.2 with ⟨_,z,_⟩|⟨k,g,Ng,g⟩
  .omega
  .rw[f2]at Ng;have:k=j:=ω
   simp_all
 have Y6:=f1.1;rcases m with ⟨rfl,L⟩|⟨rfl,L⟩|⟨rfl,L⟩
 .refine Rb F Y d DE S6 20 [8,0,0,1] 29 [] [(42,ptr E.T),(41,ptr (D.lb j))] 61 12 [] λa7 w7 S7 CI OD YQ DJ=>ah F d CI S7 43 159 #[ptr (D.lb j),ptr E.T] λRU v=>wv W {C' with sat:=S7.sat,bd:=by omega} hj Y6.el λm w8 q C8 k IV=>v _ _ _ C8.sat λa8 B8 S8 Q FN=>?_;have g:=C8.bd;refine Rb F Y d Q S8 5 [] 1 [] [(5,.iface 184 (ptr q)),(4,i6 0)] 67 12 [] λa9 w9 S9 QH Tl He X4=>cC F S9 d qh QH [] (.tuple #[i6 0,.iface 184 (ptr q)]) ?_;rw[<-k]at L;exact K m' O m w9 [oR q 0 [i6 5,i6 j,i6 0,.nilIface] false,oR a 0 [ptr (D.lb j)] false,oR n 0 [ptr x] false] (.inl (.tuple #[i6 0,.iface 184 (ptr q)])) (c9 5 j 0) ω Vh {C8 with sat:=S9.sat,bd:=by omega} L (.inr (.inl ⟨rfl,_,rfl,q,.nilIface,rfl,⟨rfl,0,rfl⟩,rfl⟩)) (λi H=>by rw[k];show(f.l.tk t).a i=_;rw[f4]) (λi H=>by rw[k];show(f.l.tk t).q i=_;rw[f6])
 .have o:f.T s.l.tl=T:=((Z5.T s.l.tl ω).1).trans Rf;refine Rb F Y d DE S6 13 [8,0,0,1] 7 [] [(33,ptr T),(32,ptr E.T),(31,ptr (D.lb j))] 54 6 [] λa7 w7 S7 CI OD YQ DJ=>ah F d CI S7 34 186 #[ptr (D.lb j),ptr E.T,ptr T] λRU v=>?_;rw[<-o];have o:=Z5.tl;refine Ye W FC {C' with sat:=S7.sat,bd:=by omega} hj Y6 ω (by rw[<-C.hk];exact C.ti.nc) (λoL hf=>L oL (hf.imp λx hx=>by
   rw[hx,(Z5.tk s.l.tl (by rw[aaD];omega)).2.1,Qp];exact cT Ot.f (sJ rfl))) λm w8 q C8 o ⟨oL,k⟩ IV=>v _ _ _ C8.sat λa8 B8 S8 Q FN=>?_
  have g:=C8.bd;refine Rb F Y d Q S8 5 [] 1 [] [(5,.iface 184 (ptr q)),(4,i6 0)] 60 6 [] λa9 w9 S9 QH Tl He X4=>cC F S9 d qh QH [] (.tuple #[i6 0,.iface 184 (ptr q)]) ?_;have DG:=FD oL (f.l.say t j 15 0) t;rw[<-k]at DG;exact K m' O m w9 [oR q 0 [i6 4,i6 j,i6 0,.nilIface] false,oR a 0 [ptr (D.lb j)] false,oR n 0 [ptr x] false] (.inl (.tuple #[i6 0,.iface 184 (ptr q)])) (c9 4 j 0) ω Vh {C8 with sat:=S9.sat,bd:=by omega} o (.inr (.inl ⟨rfl,_,rfl,q,.nilIface,rfl,⟨rfl,0,rfl⟩,rfl⟩)) (λi H=>by rw[DG.1];show(f.l.tk t).a i=_;rw[f4]) (λi H=>by rw[DG.2];show(f.l.tk t).q i=_;rw[f6])
 .have VS:s.l.wl<f.l.wl:=ga (by rw[Qp];exact gr _) Z5.wl;let⟨hx9,Tl⟩:=hzx δ;have g:(f.cm s.l.wl).map Prod.fst=some (a+1):=by
   rw[(Z5.wb s.l.wl (by rw[Qp];exact gr _)).2,CG];show(upd l.cm s.l.wl _ s.l.wl).map Prod.fst=_;simp[upd]
  obtain⟨g,hvs⟩:∃g,f.cm s.l.wl=some (a+1,g):=by
   simp_all
  obtain⟨⟨v0,v1,v2,rfl⟩,_,V⟩:=C'.ti.cm s.l.wl VS _ _ hvs;replace V:=V hx9 Tl;generalize (f.l.wt s.l.wl).b=b at V L;have pw:(pM f++(E.me D t::((oR a 0 [ptr (D.lb j)] false::oR n 0 [ptr x] false::R)++(gS f++E.O O)))).Perm (pM f++(wR f s.l.wl++(E.me D t::((oR a 0 [ptr (D.lb j)] false::oR n 0 [ptr x] false::R)++(wX f s.l.wl++E.O O))))):=by
   refine List.Perm.trans (eN _ (List.Perm.cons _ (eN _ ?_))) (pQ ..);rw[<-dU];exact(og f VS).append_right _
  have g:wR f s.l.wl=[oR (f.wb s.l.wl) 1 [i6 (nJ (f.l.wt s.l.wl))] true,oR (f.wb s.l.wl) 0 [ptr (f.T (f.l.wt s.l.wl).t.toNat)] false,oR (a+1) 0 [v0,v1,v2] true]:=by unfold wR lf;rw[hvs]
  rw[g]at pw;replace S6:St (E.Ok O) B6 50 _ _ 0 a6 w6:=⟨S6.env,C'.sat.perm pw,S6.sz⟩;refine Rb F Y d DE S6 19 [9,0,0,3] 21 [] [(46,.agg #[aH.get (aH.mk (λj=>Addr.mk (a+1) (0+j.snd) none) [v0,v1,v2] (λx g=>undef) 1 3 true none) (0,0),aH.get (aH.mk (λj=>Addr.mk (a+1) (0+j.snd) none) [v0,v1,v2] (λx g=>undef) 1 3 true none) (0,1),aH.get (aH.mk (λj=>Addr.mk (a+1) (0+j.snd) none) [v0,v1,v2] (λx g=>undef) 1 3 true none) (0,2)])] 60 8 [] λa7 w7 S7 CI OD YQ DJ=>?_;replace S7:St (E.Ok O) B6 50 [(46,.agg #[v0,v1,v2])] _ 0 a7 w7:=S7;refine GM F d CI 47 144 #[.agg #[v0,v1,v2]] ρ ρ δ S7 λRU v=>PB F Y S7.sat ω V λw8 r g IV hr=>?_;have C8:Cn E D t O f w8 (oR a 0 [ptr (D.lb j)] false::oR n 0 [ptr x] false::R):={C' with sat:=g.perm pw.symm,bd:=by omega}
  obtain⟨X,C9,hr9⟩:∃X,Cn E D t O f w8 (X++R)/\Ov X r b:=by
   rcases hr with ⟨hb,rfl⟩|⟨hb,e,rfl,he⟩|⟨hb,rfl⟩
   .exact⟨[oR a 0 [ptr (D.lb j)] false,oR n 0 [ptr x] false],C8,.inl ⟨hb,rfl⟩⟩
   .let⟨X,g,l⟩:=he.own;have k:∀r∈X,Has (pM f++(E.me D t::((oR a 0 [ptr (D.lb j)] false::oR n 0 [ptr x] false::R)++E.P O f))) r:=λr hr=>by
     have m:Has (gS f) r:=((((g r hr).1.app (tS f)).cons).app _).app _;exact((((m.pre (E.O O)).app _)).cons).app _
    have h2:=C8.more X (λr hr=>(g r hr).2) (C8.sat.RI X k) (az _);refine⟨X++[oR a 0 [ptr (D.lb j)] false,oR n 0 [ptr x] false],ξ,.inr (.inl ⟨hb,e,rfl,l.up λr hr=>hr.pre _⟩)⟩
   .exact⟨[oR a 0 [ptr (D.lb j)] false,oR n 0 [ptr x] false],C8,.inr (.inr ⟨hb,rfl⟩)⟩
  have Zs:=hr9;have a:(∃S e0,r=.inl (.tuple #[i6 S,e0]))\/r=.inr (.iface 182 (i6 b.n)):=by
   rcases hr9 with ⟨_,h⟩|⟨_,e,h,_⟩|⟨_,h⟩
   .simp_all
   .simp_all
   simp_all
  have e:=C9.bd;rcases a with ⟨S,e0,rfl⟩|rfl
  .refine v.ret _ _ _ _ _ C9.sat λa8 B8 S8 Q FN=>Rb F Y d Q S8 5 [] 1 [] [(5,YtobagnjnbmgidabGreatDoor.ev [(4,i6 S),(49,#[i6 S,e0][1]),(48,i6 S),(47,.tuple #[i6 S,e0]),(46,.agg #[v0,v1,v2])] (Operand.tmp 49)),(4,i6 S)] 66 8 [] λa9 w9 S9 QH Tl He X4=>cC F S9 d qh QH [] (.tuple #[i6 S,Array.getD (Az 50 [(5,YtobagnjnbmgidabGreatDoor.ev [(4,i6 S),(49,#[i6 S,e0][1]),(48,i6 S),(47,.tuple #[i6 S,e0]),(46,.agg #[v0,v1,v2])] (Operand.tmp 49)),(4,i6 S)]) 5 undef]) ?_;exact K m' O f w9 X (.inl (.tuple #[i6 S,e0])) b ω Vh {C9 with sat:=S9.sat,bd:=by omega} L Zs (λi H=>by rw[f4]) (λi H=>by rw[f6])
  .obtain⟨a8,t8,rfl,Q,a⟩:=v.NO;show E.Ψ O (G ((Z.at a8 t8).raise (je (.iface 182 (i6 b.n)))) (c::U)) w8;rw[raise_at hn.m];refine F.lJ Q (by rw[qh];rfl) ?_;exact K m' O f w8 X (.inr (.iface 182 (i6 b.n))) b ω Vh C9 L Zs (λi H=>by rw[f4]) (λi H=>by rw[f6])
end
def Sat.MI{p g cap:Nat}:∀(L:iO)(o:Nat)(w:aj)(M:aW)(v:eX),Sat I w M->nth M p=some (fR ⟨g,0,none⟩ 1 v cap true)->o+L.length<=cap->∃b,Sat I (w.setCells g o L) (cG M p (fR ⟨g,0,none⟩ 1 b cap true))/\(∀j,j<o->(b j).getD 0 undef=(v j).getD 0 undef)/\∀j u,L[j]? =some u->(b (o+j)).getD 0 undef=u
 |[],o,w,M,v,h,c,e=>⟨v,h.re p c rfl v (λ_ _ _ _=>rfl),λ_ _=>rfl,λj u a=>by simp at a⟩
 |y::L,o,w,M,v,h,c,e=>by
  simp only[gB]at e;have a:(fR ⟨g,0,none⟩ 1 v cap true).has (o,0):=⟨χ,aD⟩;have l:(fR ⟨g,0,none⟩ 1 v cap true).ad (o,0)=⟨g,o,none⟩:=by simp[ey]
  have k:=h.set c rfl a rfl y;rw[l]at k;have i:=k.re p (kG _ c) rfl (λj=>[if j=o then y else(v j).getD 0 undef]) (λj a f l=>by
   have h:f<1:=l;obtain rfl:f=0:=ω
   simp only[aH.set,JD];simp)
  rw[jM]at i;have f:Sat I (w.setCell ⟨g,o,none⟩ y) (cG M p (fR ⟨g,0,none⟩ 1 (λj=>[if j=o then y else(v j).getD 0 undef]) cap true)):=i;let⟨b,d,_,g⟩:=Sat.MI L (o+1) _ _ _ f (kG _ c) ω;rw[jM]at d;refine⟨b,d,λj a=>?_,λj u a=>?_⟩
  .grind
  grind
def uY(b o:Nat):∀(a:iO)(i:Nat)(w:aj)(es:dS),(∀j,j<a.length->(w.cell? ⟨b,o+i+j,none⟩).isSome=true)->(∀j,j<a.length->w.frozen? ⟨b,o+i+j,none⟩=false)->(∀v∈a,v.oneCell'=true)->∀ev∈(storeCells ⟨b,o,none⟩ a i).events prog w es,ev∈es\/∃a,ev.loc=.cell a/\a.block=b
 |[],i,w,es,_,_,_,ev,h=>.inl (by simpa [storeCells]using h)
 |v::r,i,w,es,k,g,c,ev,h=>by
  have a:(⟨b,o,none⟩:Addr).add i=⟨b,o+i,none⟩:=by rw[ey]
  let⟨u,f⟩:=Option.isSome_iff_exists.1 (k 0 ψ);have d:=g 0 ψ;simp only[jI]at f d;simp only[storeCells,YV,a]at h;rw[run_store prog w _ v _ (c v ψ),events_store prog w _ _ v _ (c v ψ),f]at h;simp[d]at h;rcases uY b o r (i+1) _ _ (λj a=>by
   rw[qa _ _ _ _ (λe=>ξ)];have:=k (j+1) θ;grind) (λj a=>by
   rw[YB];have:=g (j+1) θ;grind) (λx a=>c x (by simp[a])) ev h with a|a
  .grind
  simp_all
def Hl(o:Qc prog T e 1 bt=true)(w:aj)(m:TypeId)(i:Nat){b:Nat}{f:Addr}(r:∀(j:Nat)(u:ay),L[j]? =some u->w.cell? (f.add j)=some u)(v:∀u∈L,u.oneCell'=true)(k:∀j,j<L.length->(w.cell? ⟨b,n+j,none⟩).isSome=true)(k:∀j,j<L.length->w.frozen? ⟨b,n+j,none⟩=false)(t:n+L.length<=c):
 (Builtin.append_ #[T,T] m #[.slice (some ⟨b,0,none⟩) n c,.slice (some f) L.length i]).run prog w=.ok (.slice (some ⟨b,0,none⟩) (n+L.length) c) (w.setCells b n L)/\
 ∀ev∈(Builtin.append_ #[T,T] m #[.slice (some ⟨b,0,none⟩) n c,.slice (some f) L.length i]).events prog w #[],(∃a,ev.loc=.cell a/\ev.write=false/\a.block=f.block)\/∃a,ev.loc=.cell a/\a.block=b:=by
 let⟨inf,z,q,p,_,k,_,_,u⟩:=kv o;have s:=run_append_room_cells (P:=prog) w T m e inf q p b 0 n c f L.length i L ξ r v t (λj m=>ξ) (λj m=>ξ);rw[k,lm,bK]at s;refine⟨s,λev d=>?_⟩;have g:=run_firstCells_some (P:=prog) w inf.size L.length f L.length i L ξ r;simp[Builtin.append_,run_underlying q,sizeOf,typeInfo,p,Builtin.lenOf,t,ey,k]at d;rw[k]at g;simp only[g,xg]at d;rcases uY b n L 0 w _ ω ω v ev d with d|d
 .rcases events_firstCells_in (P:=prog) (·=f.block) 1 L.length _ w _ (λa l c e=>by
   simp_all) ev d with h|⟨a,a,a,a⟩
  .simp at h
  simp_all
 simp_all
def Ec(b:Nat):∀(L:iO)(o:Nat)(w:aj),(w.setCells b o L).heap.size=w.heap.size/\((w.setCells b o L).os=w.os/\(w.setCells b o L).tape=w.tape/\(w.setCells b o L).output=w.output)/\∀k,k≠b->(w.setCells b o L).heap[k]? =w.heap[k]?
 |[],_,_=>⟨rfl,⟨rfl,rfl,rfl⟩,λ_ _=>rfl⟩
 |v::L,o,w=>by
  let⟨f,⟨e,c,a⟩,d⟩:=Ec b L (o+1) (w.setCell ⟨b,o,none⟩ v);refine⟨by rw[World.setCells,f];simp,⟨by rw[World.setCells,e];rfl,by rw[World.setCells,c];rfl,by rw[World.setCells,a];rfl⟩,λk a=>?_⟩;rw[World.setCells,d k a];simp[World.setCell,sU,Ne.symm a]
def yA(b:Nat):∀(L:iO)(o d:Nat)(w:aj),(w.at d).setCells b o L=(w.setCells b o L).at d
 |[],_,_,_=>rfl
 |v::L,o,d,w=>by
  rw[World.setCells,World.setCells,<-yA b L (o+1) d (w.setCell ⟨b,o,none⟩ v)];rfl
def apT(C:Qc prog T e 1 bt=true)(TB:bt<=8)(F:aB prog main (DX I) Ψ)(hB:HB B I){b:aC}(hk:b.kind=.normal){B' N:Nat}{E:Env}{a:Act}{t:eC}(s x d p:Nat){len:Nat}{xv:ay}(ho:kI t=true)(UZ:oD (aQ t) s x d T=true)(hd:d<N)(hs:look E s=some (.slice (some ⟨g,0,none⟩) len cap))(hx:look E x=some xv)(hX:xv=.slice none 0 0/\L=[]\/∃m A,xv=.slice (some m) L.length A/\(∀(j:Nat)(u:ay),L[j]? =some u->w.cell? (m.add j)=some u)/\(0<L.length->m.block<w.heap.size/\∀a:Addr,a.block=m.block->I a false))(h1:∀u∈L,u.oneCell'=true)(V:nth M p=some (fR ⟨g,0,none⟩ 1 v cap true))(hg:g<w.heap.size/\∀(m:Addr)(wr:Bool),m.block=g->I m wr)(hle:len<=cap)(hq:len+L.length<1000000)(hBB:B<=B')(S:St I B' N E M c a w)(K:∀B Q P a' w',Sat I w' (cG M p (fR ⟨B,0,none⟩ 1 Q P true))->(∀j,j<len->(Q j).getD 0 undef=(v j).getD 0 undef)->(∀(j:Nat)(u:ay),L[j]? =some u->(Q (len+j)).getD 0 undef=u)->(B=g\/w.heap.size<=B)->w.heap.size<=w'.heap.size->len+L.length<=P->aR ((d,.slice (some ⟨B,0,none⟩) (len+L.length) P)::E) N a'->a'.defers=a.defers->Ψ (G (b.at a' (jB t)) U) w'):Ψ (G (b.at a t) U) w:=by
 let⟨d,i,r,D,B,H,hn⟩:=dH ho;let⟨g1,g2,g3⟩:=mh UZ;have h:∀q v,look E q=some v->a.eval (.tmp q)=v:=λq v hq=>by rw[S.env.eval (by simp[kn,hq])];simp[ev,hq]
 have O:=S.sat;have q:=S.sz;have ZX:HB w.heap.size I:=λa wr z=>hB a wr ω;rw[B];have R:∀q A,xv=.slice q 0 A->L=[]->Ψ (G (b.at a (.inRegion d (i::r)::D)) U) w:=λq A y J=>by
  subst y;subst J;refine aB.app0 C F H (by simp[Region.wanted,g1]) ξ (.tmp s) (.tmp x) g3 (h s _ hs) (h x _ hx) (λz=>by cases z) hle ?_;rw[<-hn,g2];exact K g v cap _ w (O.re p V rfl v (λ_ _ _ _=>rfl)) (λ_ _=>rfl) (λj u n=>by simp at n) (.inl rfl) (az _) ω (S.env.put hd) (put_defers _ _ _)
 rcases hX with ⟨y,J⟩|⟨m,A,y,X,W⟩
 .exact R _ _ y J
 by_cases a:L=[]
 .exact R (some m) A ξ a
 have hl:0<L.length:=χ
 subst y;by_cases hc:len+L.length<=cap
 ··have l:∀j,j<L.length->(w.cell? ⟨g,len+j,none⟩).isSome=true/\w.frozen? ⟨g,len+j,none⟩=false:=λj n=>by
    have a:(fR ⟨g,0,none⟩ 1 v cap true).has (len+j,0):=⟨χ,aD⟩;have b:(fR ⟨g,0,none⟩ 1 v cap true).ad (len+j,0)=⟨g,len+j,none⟩:=by simp[ey]
    have b:=O.val p _ V _ a;have b:=((O.ok p _ V _ a).2 rfl).2;grind
   let⟨Q,q1,q2,q3⟩:=Sat.MI L len w M v O V hc;let⟨a,b,i⟩:=Ec g L len w;refine F.OA H (by simp[Region.wanted,g1]) χ λd' a a=>?_;let⟨hr,d⟩:=Hl C (w.at d') (aQ t).type A (b:=g) (n:=len) (c:=cap) X h1 (λj n=>(l j n).1) (λj n=>(l j n).2) hc;rw[yA]at hr;refine uponK_append (.tmp s) (.tmp x) T g3 (h s _ hs) (h x _ hx) hr (a _ _ ⟨WG (g:=some g) (λe a=>?_) ⟨b.1,b.2.1,b.2.2,by show w.heap.size<=(w.setCells g len L).heap.size;omega,λk _ hk=>i k (λz=>hk (by rw[z]))⟩ (λZ e=>?_) (λm wr e=>hg.2 m wr χ),F.at' _ (w.setCells g len L) d' ?_⟩)
   .have hm:=mem_listed a;rw[events_append_op (.tmp s) (.tmp x) T g3 (h s _ hs) (h x _ hx)]at hm;rcases d e hm with ⟨a,y,J,b⟩|⟨a,y,b⟩
    .exact .inl ⟨a,y,rfl,by rw[J];exact(W hl).2 a b,by rw[b];show m.block<(w.setCells g len L).heap.size;omega⟩
    .exact .inl ⟨a,y,rfl,hg.2 a _ b,by rw[b];show g<(w.setCells g len L).heap.size;omega⟩
   .cases e;have:=(l 0 hl).1;unfold World.cell? at this;cases hh:w.heap[g]? with
    |none=>grind
    |some o=>cases o with
     |cells c t f=>exact⟨c,t,f,hh⟩
     |_=>grind
   .rw[<-hn,g2];exact K g Q cap _ _ q1 q2 q3 (.inl rfl) ω hc (S.env.put hd) (put_defers _ _ _)
 ··refine aB.Om C ω F H (by simp[Region.wanted,g1]) χ (.tmp s) (.tmp x) g3 (olds:=(List.range len).map λj=>(v j).getD 0 undef) (news:=L) (h s _ hs) (h x _ hx) ψ (λba Y j u n=>?_) (λz=>by cases z) ψ X h1 ω ω (λZ Y=>χ) (W hl) λP rs a a a Dz=>?_
   .have qN:j<len:=χ
    have:=O.val p _ V (j,0) ⟨χ,aD⟩;cases Y;simp only[aH.get,lm,ey,jI,bK]at this;rw[ey,bK,this];grind
   .rw[<-hn,g2];subst Dz;have h2:=O.R0 ZX (((List.range len).map (λj=>(v j).getD 0 undef)++L).toArray++rs) e;have J:(((List.range len).map (λj=>(v j).getD 0 undef)++L).toArray++rs).size=P:=θ
    rw[J]at h2;refine K w.heap.size _ P _ _ (h2.inst p) (λj n=>?_) (λj u n=>?_) (.inr (az _)) ψ ω (S.env.put hd) (put_defers _ _ _)
    .grind
    .have qN:j<L.length:=(lg.1 n).1;rw[ve θ];simp[vf,n]
structure Sb(s:PS)(j0 i:Nat)(ms:aN):Prop where
 nd:ms.Nodup
 le:i<=ms.length
 mem:∀x∈ms,j0<=x/\x<s.l.tl/\s.k.V.nc<=x
 fa:∀x∈ms,x=j0\/∃k w:Nat,k<i/\∃y,ms[k]? =some y/\(s.l.tk x).f=w/\(s.l.wt w).t=y
 ro:j0∈ms
 cl:∀k y,k<i->ms[k]? =some y->∀x∈s.bl y,x∈ms
def Sb.next{s:PS}(h:TI s){ms:aN}(F:Sb s j0 i ms)(f:ms[i]? =some j):Sb s j0 (i+1) (ms++s.bl j):=by
 have l:i<ms.length:=(lg.1 f).1;have l:j∈ms:=sQ f;let⟨_,s,B⟩:=F.mem j l;let⟨l,q⟩:=h.ch j s;refine⟨List.nodup_append.2 ⟨F.nd,l.imp fun{a b} z=>iS z,λx c y d e=>?_⟩,θ,λx c=>?_,λx c=>?_,gU _ F.ro,λk y a d x c=>?_⟩
 .subst e;let⟨A,v,u,w,p,t,o⟩:=q x d;rcases F.fa x c with z|⟨k,w',r,y,n,m,a⟩
  .omega
  .have:w'=w:=ω
   subst this;have g:y=j:=ω
   subst g;have:=(List.getElem?_inj ω F.nd).1 (n.trans f.symm);omega
 .rcases dJ.1 c with c|c
  .exact F.mem x c
  grind
 .rcases dJ.1 c with c|c
  .rcases F.fa x c with z|⟨k,w,r,y,n,m⟩
   .exact .inl z
   .exact .inr ⟨k,w,ω,y,χ,m⟩
  .let⟨A,v,u,w,p,t,o⟩:=q x c;exact .inr ⟨i,w,gr _,j,χ,p,o⟩
 .rw[nO ω]at d;by_cases e:k=i
  .subst e;rw[f]at d;cases d;exact gF _ c
  .exact gU _ (F.cl k y ω d x c)
def Sb.whole{s:PS}(h:TI s){ms a:aN}(F:Sb s j0 ms.length ms)(p:a.Perm ms)(b:a.Pairwise (·<·)):wu s.k.V s.l (·=j0) a:=⟨b,λj a=>(F.mem j (p.mem_iff.1 a)).2,⟨j0,p.mem_iff.2 F.ro,rfl⟩,λx g f v j d c a=>by
 let⟨k,b,e⟩:=List.getElem_of_mem (p.mem_iff.1 a);exact p.mem_iff.2 (F.cl k j b (by rw[mZ b,e]) x (h.al x g f j v d c)),λx a=>(F.fa x (p.mem_iff.1 a)).imp id fun⟨_,w,_,y,d,c,b⟩=>⟨w,y,c,b,p.mem_iff.2 (sQ d),((h.ch y (F.mem y (sQ d)).2.1).2 x (h.al x (F.mem x (p.mem_iff.1 a)).2.2 (F.mem x (p.mem_iff.1 a)).2.1 y w c b)).1⟩⟩
def xm(w:aj)(b:Nat):Int:=match w.cell? ⟨b,1,none⟩with
 |some (.int _ v)=>v
 |_=>0
def swap_perm(c:i<n)(c:j<n)(c:bU):((List.range n).map (upd (upd c i (c j)) j (c i))).Perm ((List.range n).map c):=by
 have e:∀x,upd (upd c i (c j)) j (c i) x=c (if x=j then i else if x=i then j else x):=λx=>by
  simp only[upd];split
  .rfl
  .split<;>rfl
 rw[show upd (upd c i (c j)) j (c i)=c ∘ λx=>if x=j then i else if x=i then j else x from funext e,<-List.map_map];refine List.Perm.map _ ((List.perm_ext_iff_of_nodup ?_ uo).2 λx=>?_)
 .exact List.pairwise_map.2 (List.Pairwise.imp (fun{a b} h e=>h χ) (uo (n:=n)))
 .simp only[gV,aZ];constructor
  .rintro ⟨a,a,rfl⟩;grind
  .intro a;exact⟨if x=j then i else if x=i then j else x,χ,χ⟩
def Sb.len{s:PS}{ms:aN}(F:Sb s j0 i ms):ms.length<=s.l.tl:=oX F.nd λx a=>(F.mem x a).2.1
def Sat.part(h:Sat I w (r::M))(m:r.wr=true)(c:r'.row=none)(b:∀j d,r'.has j->r'.has d->r'.ad j=r'.ad d->j=d)(k:∀j,r'.has j->∃i,r.has i/\r'.ad j=r.ad i/\r'.get j=r.get i):Sat I w (r'::M):=by
 rw[sat_iff]at h ⊢;let⟨c,o⟩:=h;have H:=c r (bI ..);refine⟨λx f=>?_,iG.2 ⟨λx f c j d a l e=>?_,(iG.1 o).2⟩⟩
 .rcases ak.1 f with rfl|f
  .refine⟨λj a=>?_,λj a=>⟨?_,λz=>?_⟩,λz=>b,λg e n z=>?_⟩
   .let⟨i,b,c,e⟩:=k j a;rw[c,e];exact H.val i b
   .let⟨i,b,c,e⟩:=k j a;rw[c];exact(H.ok i b).1
   .let⟨i,b,c,e⟩:=k j a;rw[c];exact(H.ok i b).2 m
   simp_all
  simp_all
 .let⟨i,b,c,e⟩:=k j a;exact(iG.1 o).1 x f (.inl m) i d b l ξ
def Jd{g:Addr}(c:g.spot=none):∀j a:Ix,(fR g 1 v n true).has j->(fR g 1 v n true).has a->(fR g 1 v n true).ad j=(fR g 1 v n true).ad a->j=a:=λj a d b e=>by
 let⟨_,go,f⟩:=g;simp only at c;subst c;have f:j.2<1:=d.2;have d:a.2<1:=b.2;simp only[ey,lm,Addr.mk.injEq]at e;grind
def Sat.Pu(h:Sat I w (r::M))(b:r'.wr=false)(b:r'.row=none)(k:∀j,r'.has j->∃i,r.has i/\r'.ad j=r.ad i/\r'.get j=r.get i):Sat I w (r'::M):=by
 rw[sat_iff]at h ⊢;let⟨b,l⟩:=h;have H:=b r (bI ..);refine⟨λx d=>?_,iG.2 ⟨λx d b j m a f e=>?_,(iG.1 l).2⟩⟩
 .rcases ak.1 d with rfl|d
  .refine⟨λj a=>?_,λj a=>⟨?_,λz=>?_⟩,λz=>?_,λg e n z=>?_⟩
   .let⟨i,b,c,e⟩:=k j a;rw[c,e];exact H.val i b
   .let⟨i,b,c,e⟩:=k j a;rw[c];exact(H.ok i b).1
   .simp_all
   .simp_all
   simp_all
  simp_all
 .let⟨i,b,c,e⟩:=k j a;refine(iG.1 l).1 x d (.inr ?_) i m b f ξ;simp_all
def NR{I:dh}{w:aj}{M:aW}{s:PS}:∀(ms:aN),Sat I w M->(∀x∈ms,wF (s.T x) s.k.A x (s.l.tk x).c (s.aS x)∈M)->Sat I w (ms.map (λx=>oR (s.T x) 1 [i6 x] false)++M)
 |[],h,_=>h
 |x::ms,h,a=>by
  have c:=NR ms h λy b=>a y (aP _ b);let⟨i,b⟩:=lP (gF (ms.map (λx=>oR (s.T x) 1 [i6 x] false)) (a x (bI ..)));have a:=c.get ⟨rfl,i,b⟩;refine a.Pu rfl rfl λj a=>⟨(j.1,1),⟨a.1,(by decide:1<4)⟩,?_,?_⟩
  .have:j.2<1:=a.2;simp_all
  .have:j.2<1:=a.2;let⟨_,a⟩:=j;simp only at this;obtain rfl:a=0:=ω
   rfl
def aam(hF:∀p,aB prog false (DX (E.Ok p)) (E.Ψ p))(hBB:∀p,∀(a:Addr)(wr:Bool),E.Bd p<=a.block->E.Ok p a wr){p:γ}{s:PS}{c:aC}(C:Cn E D t p s w0 R)(Yb:s.l.tl<9990)(hn:O0 Z 187)(K:∀g u n cap w',n<1000000->Cn E D t p s w' (tR g u n::R)->(∃oL:List Nat,wu D.V s.l (·=j0) oL/\oL.length=n/\∀i,i<n->u i=s.T (oL.getD i 0))->w0.heap.size<=w'.heap.size->E.Ψ p (G (c.finish (.slice (some g) n cap)) U) w'):
 ∀(d i:Nat)(ms:aN)(g cap:Nat)(v:eX)(J:Act)(w:aj)(A:Nat),d+i=s.l.tl->Sb s j0 i ms->(∀j x,ms[j]? =some x->(v j).getD 0 undef=ptr (s.T x))->ms.length<=cap->g<w.heap.size->(∀(Y:Addr)(wr:Bool),Y.block=g->E.Ok p Y wr)->J.defers=[]->w.heap.size=A->w0.heap.size<=A->
   St (E.Ok p) A 25 [(4,i6 (i:Nat)),(3,.slice (some ⟨g,0,none⟩) ms.length cap)] (fR ⟨g,0,none⟩ 1 v cap true::(pM s++(E.me D t::(R++E.P p s)))) 0 J w->E.Ψ p (G (Z.at J (pc prog 187 17 [] [])) (c::U)) w:=by
 intro d;have F:=hF p;have X:=hBB p;have o:=hn.k;have qh:=hn.f;have n:=C.bd
 have fin:∀(i:Nat)(ms:aN)(g cap:Nat)(v:eX)(J:Act)(w:aj)(A:Nat),Sb s j0 i ms->i=ms.length->(∀j x,ms[j]? =some x->(v j).getD 0 undef=ptr (s.T x))->ms.length<=cap->g<w.heap.size->(∀(Y:Addr)(wr:Bool),Y.block=g->E.Ok p Y wr)->J.defers=[]->w.heap.size=A->w0.heap.size<=A->
  St (E.Ok p) A 25 [(4,i6 (i:Nat)),(3,.slice (some ⟨g,0,none⟩) ms.length cap)] (fR ⟨g,0,none⟩ 1 v cap true::(pM s++(E.me D t::(R++E.P p s)))) 0 J w->E.Ψ p (G (Z.at J (pc prog 187 17 [] [])) (c::U)) w:=by
  intro i ms g cap v J w A l him hv m hg H I T V S;have hml:=l.len;have n:decide ((i:Int)<(ms.length:Int))=false:=θ
  refine TP F X o I S 13 [] 4 [] [(22,.slice (some ⟨g,0,none⟩) (List.length ms) cap),(3,.slice (some ⟨g,0,none⟩) (List.length ms) cap)] 30 2 [] [] [(decide ((↑i:Int)<(↑(List.length ms):Int)),false)] [] [] λa1 L P Nt zS Dx o9=>?_;have hms:∀k,k<ms.length->ms[k]? =some (ms.getD k 0):=λk M=>ξ
  have n:Sat (E.Ok p) L (tR ⟨g,0,none⟩ (λk=>s.T (ms.getD k 0)) ms.length::(pM s++(E.me D t::(R++E.P p s)))):=by
   refine Sat.part P.sat rfl rfl (Jd rfl) λj O=>⟨(j.1,0),⟨by have:j.1<ms.length:=O.1;grind,aD⟩,?_,?_⟩
   .have:j.2<1:=O.2;simp_all
   .have h9:j.2<1:=O.2;have G:j.1<ms.length:=O.1;show List.getD [ptr (s.T (ms.getD j.1 0))] j.2 undef=(v j.1).getD 0 undef;simp_all
  have h3:=NR (s:=s) ms n λx B=>aP _ (gF _ (aP _ (gF _ (gU _ ((jw s (l.mem x B).2.1).mem_iff.2 (by simp[j7]))))));have h4:=h3.perm (eY (l₁:=ms.map (λx=>oR (s.T x) 1 [i6 x] false)));have N:∀x∈ms,xm L (s.T x)=x:=λx B=>by
   have:=((sat_iff.1 h3).1 _ (gU _ (gV.2 ⟨x,B,rfl⟩))).val (0,0) ⟨aD,aD⟩;have h9:L.cell? ⟨s.T x,1,none⟩=some (i6 x):=this;unfold xm;rw[h9]
  have QG:∀k,k<ms.length->ms.getD k 0∈ms:=λk M=>sQ (hms k M);have hT:fS ⟨λv=>∃Q:Nat->Nat,(∀k,k<ms.length->v k=s.T (Q k))/\((List.range ms.length).map Q).Perm ms,xm L,0,ms.length⟩ (ms.map (λx=>oR (s.T x) 1 [i6 x] false)++(pM s++(E.me D t::(R++E.P p s)))) (λk=>s.T (ms.getD k 0)) ms.length:=by
   refine⟨λk M=>?_,⟨λk=>ms.getD k 0,λk _=>rfl,?_⟩,λv x y _ B _ hy ⟨Q,h1,n⟩=>⟨upd (upd Q x (Q y)) y (Q x),λk M=>?_,(swap_perm B hy Q).trans n⟩,λi j W O e=>?_,λx y e=>absurd e ψ,az _⟩
   .have n:=QG k M;show Has _ (oR (s.T (ms.getD k 0)) 1 [i6 (xm L (s.T (ms.getD k 0)))] false);rw[N _ n];refine Has.pre (C:=ms.map (λx=>oR (s.T x) 1 [i6 x] false)) ?_ _;let⟨i',KG⟩:=lP (gV.2 ⟨ms.getD k 0,n,rfl⟩:oR (s.T (ms.getD k 0)) 1 [i6 (ms.getD k 0:Nat)] false∈ms.map (λx=>oR (s.T x) 1 [i6 x] false));exact⟨rfl,i',KG⟩
   .have e:(List.range ms.length).map (λi=>ms.getD i 0)=ms:=List.ext_getElem? λi=>by
     by_cases W:i<ms.length
     .simp[ni,W]
     .simp[W]
    rw[e]
   .have:=h1 k M;have:=h1 x B;have:=h1 y hy;simp only[upd];grind
   .have e':xm L (s.T (ms.getD i 0))=xm L (s.T (ms.getD j 0)):=e;rw[N _ (QG i W),N _ (QG j O)]at e';exact(List.getElem?_inj W l.nd).1 (by rw[hms i W,hms j O];congr 1;omega)
  replace P:St (E.Ok p) A 25 _ _ 0 a1 L:=⟨P.env,h4,P.sz⟩;refine ah F o Nt P 23 189 #[.slice (some ⟨g,0,none⟩) (List.length ms) cap,.func (Fn.func 190) #[] #[]] λe e=>O9 F X ω P.sat hT ⟨rfl,rfl⟩ ω λu w2 n h5 n s5=>e _ _ _ h5 λa2 e S2 DF tM=>UF F X o qh DF S2 6 [] 1 [] 2 (.slice (some ⟨g,0,none⟩) (List.length ms) cap) 37 2 [] λw3 S3 e e=>K ⟨g,0,none⟩ u ms.length cap w3 ω (C.more [tR ⟨g,0,none⟩ u ms.length] (λr hr=>ξ) ?_ ω) (by
   let⟨Q,h6,h7⟩:=n.q;subst him;have e:((List.range ms.length).map Q).Pairwise (·<·):=List.pairwise_map.2 (LK (fun{x y} B hy h=>(by
    have q1:=s5 x y (gl _) h.2 (aZ.1 hy);have q2:xm L (u x)<=xm L (u y):=q1;rw[h6 x (aZ.1 B),h6 y (aZ.1 hy),N _ (h7.mem_iff.1 (gV.2 ⟨x,B,rfl⟩)),N _ (h7.mem_iff.1 (gV.2 ⟨y,hy,rfl⟩))]at q2;have:=h.1;omega)) ((List.pairwise_map.1 (h7.nodup_iff.2 l.nd)).and List.pairwise_lt_range))
   refine⟨(List.range ms.length).map Q,C.hk▸l.whole C.ti h7 e,ψ,λk M=>?_⟩;rw[h6 k M];simp[ni,M]) ω
  exact S3.sat.sub (List.Sublist.cons_cons _ (D8 _ _))
 induction d with
 |zero=>
  intro i ms g cap v J w A W l hv m hg H I T V S;have hml:=l.len;have:=l.le;exact fin i ms g cap v J w A l ω hv m hg H I T V S
 |succ d ih=>
  intro i ms g cap v J w A W l hv m hg H I T V S;have hml:=l.len;by_cases him:i<ms.length
  .obtain⟨j,O⟩:∃j,ms[i]? =some j:=⟨_,mZ him⟩
   let⟨_,j2,d⟩:=l.mem j (sQ O);obtain⟨fv,FV⟩:∃fv,fv=su (s.bf j) (s.bl j).length:=⟨_,rfl⟩
   have pe:(fR ⟨g,0,none⟩ 1 v cap true::(pM s++(E.me D t::(R++E.P p s)))).Perm (fR ⟨g,0,none⟩ 1 v cap true::(pM s++([dO (s.T j) (j9 s.wb (s.l.tk j).o) fv (s.l.tk j).x (s.l.tk j).e,fR ⟨(s.bf j).g,(s.bf j).o,none⟩ 1 (s.bf j).v (rK (s.bf j)) true,wF (s.T j) s.k.A j (s.l.tk j).c (s.aS j)]++(E.me D t::(R++(tX s j++E.O p)))))):=by
    refine List.Perm.cons _ (eN _ ?_);have h:=((jw s j2).append_right (E.O p)).append_left (E.me D t::R);unfold j7 at h;rw[<-FV,dU]at h;exact(List.Perm.trans (l₂:=(E.me D t::R)++(gS s++E.O p)) (.refl _) h).trans (fA ..)
   replace S:St (E.Ok p) A 25 _ _ 0 J w:=⟨S.env,S.sat.perm pe,S.sz⟩;refine TP F X o I S 18 [0,i,0,101] 26 [] [(17,aH.get (aH.mk (λj=>Addr.add (Addr.add ⟨g,0,none⟩ (j.fst*1)) j.snd) [] (λj f=>List.getD (v j) f undef) cap 1 true none) (i,0)),(13,.slice (some ⟨g,0,none⟩) (List.length ms) cap),(4,i6 i)] 35 3 [] [] [(decide ((↑i:Int)<(↑(List.length ms):Int)),true)] [((↑i:Int),List.length ms)] [(1,(i,cap))] λa1 L P Nt zS Dx o9=>?_;have S1':St (E.Ok p) A 25 [(17,(v i).getD 0 undef),(13,.slice (some ⟨g,0,none⟩) ms.length cap),(4,i6 (i:Nat))] _ 0 a1 L:=P;rw[hv i j O]at S1';clear P;have P:=S1';clear S1';refine Rb F X o Nt P 3 [8,0,1,1] 1 [] [(20,aH.get (aH.mk (λd=>Addr.mk (s.T j) (4+d.snd) none) [j9 s.wb (s.l.tk j).o,fv,.bool (s.l.tk j).x,.bool (s.l.tk j).e] (λx d=>undef) 1 4 true none) (0,1)),(13,.slice (some ⟨g,0,none⟩) (List.length ms) cap),(4,i6 i)] 38 3 [] λa2 w2 S2 DF tM d d=>?_;have hP:=C.pv.bg j j2;have d:(s.bl j).length<=s.l.tl:=oX ((C.ti.ch j j2).1.imp fun{a b} h=>iS h) λc b=>((C.ti.ch j j2).2 c b).2.1;refine apT t115 δ F X o 13 20 21 0 (g:=g) (len:=ms.length) (cap:=cap) (xv:=fv) (v:=v) (L:=(s.bl j).map λx=>ptr (s.T x)) ρ ρ δ rfl rfl ?_ (λu hu=>by obtain⟨x,_,rfl⟩:=gV.1 hu;rfl) rfl ⟨ω,H⟩ m θ ω S2 λg' v' c' d w3 h3 q1 q2 q3 b q5 hA3 c=>?_
   .rw[FV];unfold su;by_cases b:(s.bf j).s=true
    .rw[sJ b];refine .inr ⟨_,_,by rw[List.length_map],λq u hu=>?_,λ_=>⟨?_,λa e=>hP.ok b a false e⟩⟩
     .have a:q<(s.bl j).length:=by have:=(lg.1 hu).1;simpa using this
      have h9:=S2.sat.val 9 _ rfl (q,0) ⟨by show q<rK (s.bf j);unfold rK;rw[sJ b];have:=hP.len b;omega,aD⟩;have h9':w2.cell? (((⟨(s.bf j).g,(s.bf j).o,none⟩:Addr).add (q*1)).add 0)=some (((s.bf j).v q).getD 0 undef):=h9;rw[hP.val q a]at h9';rw[lm,Addr.add_add,jI]at h9';rw[h9'];simp only[List.getElem?_map,mZ a,fI,Option.some.injEq]at hu;rw[<-hu,ni,mZ a];rfl
     .have:=rG C.sat (λr hr=>gF _ (aP _ (gF _ (gU _ hr)))) j2 b;grind
    .rw[af b];exact .inl ⟨rfl,by rw[(hP.nil χ).1];rfl⟩
   .have CJ:d.defers=[]:=c.trans DF;rw[List.length_map]at q5 hA3;rw[show jB (pc prog 187 38 (Bo 3) [])=pc prog 187 39 [true] [] by kernel_rfl];have h4:Sat (E.Ok p) w3 (fR ⟨g',0,none⟩ 1 v' c' true::(pM s++(E.me D t::(R++E.P p s)))):=by
     have h5:Sat (E.Ok p) w3 (fR ⟨g',0,none⟩ 1 v' c' true::(pM s++([dO (s.T j) (j9 s.wb (s.l.tk j).o) fv (s.l.tk j).x (s.l.tk j).e,fR ⟨(s.bf j).g,(s.bf j).o,none⟩ 1 (s.bf j).v (rK (s.bf j)) true,wF (s.T j) s.k.A j (s.l.tk j).c (s.aS j)]++(E.me D t::(R++(tX s j++E.O p)))))):=h3;exact h5.perm (List.Perm.cons _ ((List.perm_cons _).1 pe).symm)
    have S3:St (E.Ok p) w3.heap.size 25 [(21,.slice (some ⟨g',0,none⟩) (ms.length+(s.bl j).length) c'),(4,i6 (i:Nat))] _ 0 d w3:=St.dB (E:=_::_::_::_::[]) ⟨hA3,h4,rfl⟩ _ rfl;have ew:wp i=((i+1:Nat):Int):=j6;generalize hB3:w3.heap.size=a at*;refine Rb F X o CJ S3 9 [] 1 [] [(4,i6 (wp i)),(3,.slice (some ⟨g',0,none⟩) (List.length ms+List.length (s.bl j)) c')] 48 3 [] λd b S4 a c c c=>?_;rw[ew]at S4;have el:ms.length+(s.bl j).length=(ms++s.bl j).length:=ψ
    rw[el]at S4 q5;refine ih (i+1) (ms++s.bl j) g' c' v' d b _ ω (l.next C.ti O) (λk x B=>?_) q5 ?_ (λY wr z=>?_) a rfl ω ⟨(S4.dB [(4,i6 ((i+1:Nat):Int)),(3,.slice (some ⟨g',0,none⟩) (ms++s.bl j).length c')] rfl).env,S4.sat,rfl⟩
    .by_cases M:k<ms.length
     .rw[nO M]at B;rw[q1 k M];exact hv k x B
     .rw[vf ω]at B;have:=q2 (k-ms.length) (ptr (s.T x)) (by rw[List.getElem?_map,B];rfl);rw[show ms.length+(k-ms.length)=k by omega]at this;exact this
    .have:=S4.sat.blk (bI ..) (j:=(0,0)) ⟨χ,aD⟩;simpa [ey]using this
    .rcases q3 with a|a
     .exact H Y wr ω
     .exact X Y wr ω
  .exact fin i ms g cap v J w A l (by have:=l.le;omega) hv m hg H I T V S
def Yc(i:∀p,aB prog false (DX (E.Ok p)) (E.Ψ p))(d:∀p,∀(a:Addr)(wr:Bool),E.Bd p<=a.block->E.Ok p a wr):rB E D t:=by
 intro p s w R j0 c U C b f a K;have F:=i p;have l:=d p;have g:=C.sat;have c:=C.bd;refine cJ func187 g 25 λZ c h q g c c p n=>aq (λM=>bR (h) [ptr (s.T j0)]::(M)) 1 F l g c p 17 [] 1 [] [(4,i6 0),(3,.slice (some ⟨h,0,none⟩) 1 1)] 17 1 [] λt n g c p p p=>aam i d (j0:=j0) C a q K s.l.tl 0 [j0] h 1 (λ_=>[ptr (s.T j0)]) t n _ rfl ⟨ψ,ψ,λx e=>?_,λx e=>?_,ψ,λk y a=>ω⟩ (λj x e=>?_) (az _) ω (λa wr z=>l a wr ω) c rfl ω ⟨g.env,Sat.part g.sat rfl rfl (Jd rfl) (λj b=>⟨(0,j.1),⟨aD,b.1⟩,?_,?_⟩),rfl⟩
 .simp at e;subst e;exact⟨az _,b,by rw[C.hk];exact f⟩
 .simp_all
 .grind
 .have m:j.2<1:=b.2;simp[ey];omega
 .have m:j.2<1:=b.2;have r:j.1<1:=b.1;let⟨a,o⟩:=j;simp only at m r;obtain rfl:a=0:=ω
  obtain rfl:o=0:=ω
  rfl
end Go.Proofs.YtobagnjnbmgidabGreatDoor
