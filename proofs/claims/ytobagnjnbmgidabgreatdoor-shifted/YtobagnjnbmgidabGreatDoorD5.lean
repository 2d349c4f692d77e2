import Derived.Test.YtobagnjnbmgidabGreatDoorD0
set_option linter.all false
set_option maxHeartbeats 0
set_option maxRecDepth 100000
namespace Go.Proofs.YtobagnjnbmgidabGreatDoor
open Go.Conc Go.RowKit Go.Extern Tryz
open Go.ConcN (sumTo sumTo_upd)
variable{cb:Bool}{d O:Int}{b j n o x:Nat}{M R':aW}{w':aj}{en v:ay}{g:aV}{cs:cO}{U:iO}
variable{R:RN}{Post:qz}{B B' t κ bg Λ i m X ng:Nat}{I:dh}{S:gi}{D:aN}{st:oJ}{w wS:aj}
def Mx(T aS x:Nat):List (Addr×Value):=[(⟨x,0,none⟩,ptr T),(⟨T,3,none⟩,.chan (some aS))]
def Gd.kE(σ:Gd)(t T aS:Nat)(q:yH):Gd:={st:=(⟨q.x,0,none⟩,ptr T)::σ.st,ng:=σ.ng,L:=σ.L,nb:=σ.nb,Inb:=cu (cu σ.Inb q.κ (some (lB aS q.c q.cs))) 0 none,St:=cu σ.St q.κ (wD (Mx T aS q.x)),tk:=cu σ.tk t (jm q),dn:=σ.dn,cc:=σ.cc}
section
variable{σ:Gd}{s s':PS}
def Dn{T aS:Nat}(c:t<R.n)(b:σ.tk t=ld)(q:yH)(s:PS):(dD R (σ.kE t T aS q) s).Perm (q.R++dD R σ s):=by
 have h:=uz (R:=R) (tk:=cu σ.tk t (jm q)) c (b:=false);rw[bz,RH,RG _ _ _ b]at h;have a:=h.append_right (σ.dn++R.S);rw[dU]at a;exact(eN (gS s) a).trans (fA ..)
def JL.mo{a:PS}{b:Bk}(W:JL t s a O d i x b cb):Mo s a:=by
 let⟨Q3,_,a⟩:=W.T;refine⟨W.k,by rw[W.l];exact az _,λj _=>ξ,λj _=>?_,by rw[W.l];exact Nat.le_succ _,λj a=>⟨by rw[W.wb];exact af (iS a),by rw[W.cm j a]⟩,λj a=>by rw[W.l];simp[LS.tH,LS.wait,LS.cB,LS.put,upd,iS a]⟩;rw[W.l];by_cases e:j=t
 .subst e;simp[LS.tH,LS.wait,LS.cB,LS.put,upd]
 .simp[LS.tH,LS.wait,LS.cB,LS.put,upd,e]
def ud.Kh(C:ud R σ s B t κ bg){w:Nat}(e:j∈s.q)(h:lX s.l j t w\/(s.l.ag j).t=t/\(s.l.ag j).c=0):False:=by
 let⟨d,_,f,c⟩:=C.co.jz j e;have:d=t:=by
  rcases h with h|h
  .have:=h.1;omega
  omega
 subst this;rw[C.lv]at c;rcases c with ⟨_,z⟩|⟨w',d,d,⟨d,a⟩|⟨_,q,z,_⟩⟩
 .cases z
 .rcases h with h|h
  .let⟨_,_,d,b⟩:=h;have:w'=w:=ω
   subst this;rcases a with a|a
   .rcases b with b|b
    .simp_all
    .omega
   simp_all
  .omega
 .cases z
def Jz(C:ud R σ s B t κ bg){o:PS}{b:Bk}(W:JL t s o O d i x b cb){c:aC}(i:yF R.k R')(i:Flat R')(hB:B<=B')(hx:x<B'):
 Co R (σ.kE t (s.T t) (s.aS t) ⟨κ,s.l.wl,x,bg,c,cs,R',O,b,(s.l.tk t).a,(s.l.tk t).q,o⟩) o B':=by
 have f:=C.co;let⟨Q3,V,hT3⟩:=W.T;generalize J:(⟨κ,s.l.wl,x,bg,c,cs,R',O,b,(s.l.tk t).a,(s.l.tk t).q,o⟩:yH)=q;have Z:q.κ=κ:=by rw[<-J]
 have qw:q.wn=s.l.wl:=by rw[<-J]
 have qx:q.x=x:=by rw[<-J]
 have c:=C.BW;have K:∀j,j<s.l.al->o.l.ag j=s.l.ag j:=λj m=>by rw[W.l];simp[LS.tH,LS.wait,LS.cB,LS.put,upd,iS m]
 have rZ:o.l.ag s.l.al=⟨s.l.now+d,t,s.l.wl,1,false⟩:=by rw[W.l];simp[LS.tH,LS.wait,LS.cB,LS.put,upd]
 have l:=IC W.q;have E:∀k,k<s.l.wl->o.l.wt k=s.l.wt k:=λk c=>by rw[W.l];simp[LS.tH,LS.wait,LS.cB,LS.put,upd,iS c]
 have T:o.l.wt s.l.wl=⟨t,O,false,false,b,0,0⟩:=by rw[W.l];simp[LS.tH,LS.wait,LS.cB,LS.put,upd]
 have Dy:o.l.wl=s.l.wl+1:=by rw[W.l];rfl
 have Xm:∀j,(o.l.tk j).a=(s.l.tk j).a/\(o.l.tk j).q=(s.l.tk j).q:=λj=>by
  rw[W.l];by_cases e:j=t
  .subst e;simp[LS.tH,LS.wait,LS.cB,LS.put,upd]
  .simp[LS.tH,LS.wait,LS.cB,LS.put,upd,e]
 have I:o.l.tl=s.l.tl:=by rw[W.l];rfl
 have A:∀j,j≠t->(σ.kE t (s.T t) (s.aS t) q).tk j=σ.tk j:=λj m=>gk _ _ m;have Y:(σ.kE t (s.T t) (s.aS t) q).tk t=jm q:=bz ..;have old:∀j∈s.q,∀u w:Nat,(lX o.l j u w\/(o.l.ag j).t=u/\(o.l.ag j).c=0)->(lX s.l j u w\/(s.l.ag j).t=u/\(s.l.ag j).c=0):=λj m u w h=>by
  unfold lX th at h;rw[K j (f.ql j m)]at h;refine h.imp_left λh=>?_;let⟨F,v,G,Q⟩:=f.jz j m;have c:w<s.l.wl:=by
   omega
  rw[E w c]at h;exact h
 refine⟨W.k.trans f.hk,f.Ku,aT f.IB hB,ga f.AB hB,λp M=>?_,λy d=>aP _ (f.sA y d),λj m=>aP _ (f.sT j m),by rw[I,Q3,V];exact f.cs,f.ci,λq J=>⟨(f.cb q J).1,ga (f.cb q J).2.1 hB,(f.cb q J).2.2⟩,⟨ga f.wB.1 hB,ga f.wB.2 hB⟩,by rw[I];exact f.tl,λj m=>by rw[A j (by have:=C.tn;omega)];exact f.fr j ω,by rw[hT3];exact f.wk,λg y v G=>?_,λg e v G=>?_,λj D H=>?_,λj m=>?_,λj m=>?_,CB W.q f.nd (λz=>by have:=f.ql _ z;omega),λF d=>⟨λS=>?_,λD S=>?_⟩,λa X b N u wa wb v G=>?_,λw c hx he=>?_,?_,λj m he=>?_,f.RE,f.dW⟩
 .rcases ak.1 M with rfl|M
  .simp_all
  .have:=f.st p M;omega
 .have r:(cu (cu σ.Inb q.κ (some (lB (s.aS t) q.c q.cs))) 0 none g).isSome:=v;have L:cu σ.St q.κ (wD (Mx (s.T t) (s.aS t) q.x)) g y:=G;by_cases e0:g=0
  .subst e0;rw[bz]at r;cases r
  .rw[gk _ _ e0]at r;by_cases e:g=q.κ
   .subst e;rw[bz]at L;obtain⟨p,M,rfl⟩:=L;simp only[Mx,ak,bH,or_false]at M;rcases M with rfl|rfl
    .exact⟨_,bI ..,rfl⟩
    .exact⟨_,aP _ (f.sT _ (f.cs t C.tn)),rfl⟩
   .rw[gk _ _ e]at r L;obtain⟨p,M,rfl⟩:=f.L9 g y r L;exact⟨p,aP _ M,rfl⟩
 .have r:cu (cu σ.Inb q.κ (some (lB (s.aS t) q.c q.cs))) 0 none g=some e:=v;rw[gk _ _ G]at r;by_cases c:g=q.κ
  .grind
  .rw[gk _ _ c]at r;let⟨j,D,H,Nh⟩:=f.yN g e r G;exact⟨j,D,by rw[A j (λz=>by rw[z,C.lv]at H;cases H)];exact H,Nh⟩
 .by_cases e:j=t
  .subst e;have:D=q:=by
    simp_all
   subst this;refine⟨by rw[I];exact C.tn,?_,ω,by rw[Z];exact C.Lu,aP _ (by rw[<-J];exact C.bg),by rw[Q3];exact bI ..,ω,?_,χ,λ_=>χ,by rw[qw,T],by rw[qw,T],χ,χ,χ,χ,by rw[<-J];exact Mo.refl _⟩
   .show cu (cu σ.Inb D.κ _) 0 none D.κ=_;rw[gk _ _ ω,bz,V]
   .rw[W.wb,qw,qx];exact sJ rfl
  .rw[A j e]at H;have P:=f.pk j D H;have U:D.κ≠q.κ:=λz=>by have:=P.yN;rw[z,Z,C.TD]at this;cases this
   refine⟨by rw[I];exact P.tn,?_,P.BW,P.Lu,aP _ P.bg,by rw[Q3];exact aP _ P.x,by rw[Dy];exact BX P.wn,?_,by rw[E _ P.wn];exact P.wl,by rw[E _ P.wn];exact P.wk,by rw[E _ P.wn];exact P.wt,by rw[E _ P.wn];exact P.we,by rw[(Xm j).1];exact P.a,by rw[(Xm j).2];exact P.tq,P.eH,P.fl,P.mo.trans W.mo⟩
   .show cu (cu σ.Inb q.κ _) 0 none D.κ=_;rw[gk _ _ (by have:=P.BW;omega),gk _ _ U,V];exact P.yN
   .have:=P.wn;rw[W.wb];exact(af ω).trans P.wb
 .rw[I];rcases(l j).1 m with rfl|m
  .rw[rZ];exact⟨t,C.tn,rfl,.inr ⟨s.l.wl,rfl,ω,.inr ⟨.inl ⟨rfl,by rw[T]⟩,q,Y,qw⟩⟩⟩
  .rw[K j (f.ql j m)];let⟨F,v,G,Q⟩:=f.jz j m;refine⟨F,v,G,?_⟩;by_cases e:F=t
   .subst e;rw[C.lv]at Q;grind
   .rw[A F e];exact Q.imp id fun⟨w',g,d,c⟩=>⟨w',g,ω,by unfold th;rw[E w' d];exact c⟩
 .have:o.l.al=s.l.al+1:=by rw[W.l];rfl
  rcases(l j).1 m with rfl|m
  .omega
  .have:=f.ql j m;omega
 .have e:F≠t:=λz=>ξ
  rw[A F e]at S;let⟨j,m,v⟩:=(f.all F ω).1 S;exact⟨j,(l j).2 (.inr m),by rw[K j (f.ql j m)];exact v⟩
 .by_cases e:F=t
  .subst e;rw[Y]at S;cases S;refine⟨s.l.al,(l _).2 (.inl rfl),?_⟩;unfold lX th;simp_all
  .rw[A F e]at S;let⟨j,m,v⟩:=(f.all F ω).2 D S;refine⟨j,(l j).2 (.inr m),?_⟩;unfold lX th at v ⊢;rw[K j (f.ql j m),E _ (f.pk F D S).wn];exact v
 .have alt:∀u w:Nat,(lX o.l s.l.al u w\/(o.l.ag s.l.al).t=u/\(o.l.ag s.l.al).c=0)->u=t:=λu w h=>by
   unfold lX at h;grind
  rcases(l a).1 X with rfl|X
  .rcases(l b).1 N with rfl|N
   .rfl
   .have:=alt u wa v;subst this;exact(C.Kh N (old b N u wb G)).elim
  .rcases(l b).1 N with rfl|N
   .have:=alt u wb G;subst this;exact(C.Kh X (old a X u wa v)).elim
   .exact f.DK a X b N u wa wb (old a X u wa v) (old b N u wb G)
 .by_cases e:w=s.l.wl
  .grind
  .have a:w<s.l.wl:=ω
   rw[E w a]at hx he;let⟨F,D,G,Q⟩:=f.wa w a hx he;exact⟨F,D,by rw[A F (λz=>by rw[z,C.lv]at G;cases G)];exact G,Q⟩
 .show σ.nb<=sumTo R.n (λj=>A6 (cu σ.tk t (jm q) j));have v:=sumTo_upd σ.tk (jm q) A6 (ga C.tn f.tl);rw[C.lv]at v;have Q:=f.nb;simp only[A6,Gd.sd]at v Q;unfold cu;simp only[A6]at Q ⊢;omega
 .have U:j≠t:=λz=>by
   simp_all
  rw[A j U]at he;rw[W.oh,W.l];exact f.ed j m he
def Gd.rU(σ:Gd)(t:Nat)(q:yH):Gd:={σ with tk:=cu σ.tk t (jm q)}
def Co.rU{q:yH}{a:PS}(C:Co R σ s B)(o:σ.tk t=jm q)(x:Mo a s):Co R (σ.rU t {q with ps:=a}) s B:=by
 have D:=C.pk t q o;have m:∀j,j≠t->(σ.rU t {q with ps:=a}).tk j=σ.tk j:=λj d=>gk _ _ d;have l:(σ.rU t {q with ps:=a}).tk t=jm {q with ps:=a}:=bz ..;have s:∀j r,σ.tk j=jm r->∃c,(σ.rU t {q with ps:=a}).tk j=jm c/\c.wn=r.wn/\c.κ=r.κ:=λj r b=>by
  grind
 have A:∀j r,(σ.rU t {q with ps:=a}).tk j=jm r->∃c,σ.tk j=jm c/\c.wn=r.wn:=λj r b=>by
  grind
 have no:∀j,(σ.rU t {q with ps:=a}).tk j=none↔σ.tk j=none:=λj=>by
  grind
 refine{C with fr:=λj d=>(no j).2 (C.fr j d),yN:=λg e f k=>?_,pk:=λj r b=>?_,jz:=λi y=>?_,all:=λj d=>⟨λh=>(C.all j d).1 ((no j).1 h),λr b=>?_⟩,wa:=λw v p n=>?_,nb:=?_,ed:=λj d n=>?_}
 .let⟨j,r,b,h⟩:=C.yN g e f k;grind
 .by_cases e:j=t
  .subst e;rw[l]at b;cases b;exact{D with mo:=x}
  .rw[m j e]at b;exact{C.pk j r b with}
 .let⟨u,f,k,g⟩:=C.jz i y;refine⟨u,f,k,g.imp (λz=>⟨z.1,(no u).2 z.2⟩) ?_⟩;grind
 .let⟨c,f,k⟩:=A j r b;rw[<-k];exact(C.all j d).2 c f
 .let⟨u,r,f,k⟩:=C.wa w v p n;grind
 .have f:=C.nb;have:(σ.rU t {q with ps:=a}).sd R=σ.sd R:=by
   unfold Gd.sd;congr 1;funext j;by_cases e:j=t
   .subst e;rw[l,o];rfl
   simp_all
  rw[this];exact f
 .by_cases e:j=t
  .simp_all
  .rw[m j e]at n;exact C.ed j d n
end
section
variable{σ:Gd}{s s':PS}
def Has.sat(h:Sat I w M)(a:Has M (oR b o (v::U) false)):w.cell? ⟨b,o,none⟩=some v:=by
 let⟨_,i,b⟩:=a;exact h.val i _ b (0,0) ⟨aD,ψ⟩
def Co.inj(C:Co R σ s B){g b:Nat}{e:Seat}(f:g≠0)(a:σ.Inb g=some e)(d:e.has b):∃j q,σ.tk j=jm q/\q.κ=g/\b=s.aS j:=by
 let⟨j,q,b,c⟩:=C.yN g e a f;have:=(C.pk j q b).yN;rw[c,a]at this;rw[Option.some.inj this]at d;exact⟨j,q,b,c,l7 d⟩
theorem LV(H:tZ R)(IH:∀m,m<Λ->p7 R Post m){A:PS}(p:L4 R Post Λ t κ bg)(s L f:PS)(w:aj)(i x:Nat)(O:Nat)(d:Int)(b:Bk)(cb:Bool)(c:aC)(cs:cO)(R':aW)(m:Nat)(o:Cp (eD R Post Λ t κ bg A) R.k t p s)(hti:TI s)(T:JL t s L O d i x b cb)(V:Gm L f)(aaP:∀j,j<f.l.tl->(f.T j,f.aS j)∈p.σ.cc)(hS:Sat (jO R p.σ) w (pM f++((eD R Post Λ t κ bg A).me R.k t::(R'++dD R p.σ f))))(hP:PV (jO R p.σ) f (bA f))(hQ:QI f)(Rf:TI f)(Q9:Hs R f)(i:∀k,k<R.k.V.nl->(R.k.V.ly k).k=5->(f.f k).s=true->(f.f k).g≠x)(o8:∀j,j<f.l.tl->(f.bf j).s=true->(f.bf j).g≠x)(hF:Flat (R'++nD R p.σ))(Qi:yF R.k R')(hB:p.B<=w.heap.size)(Nj:Fin R.k.V R.Lf m none f.l)(hm:m<=p.pS)(K:∀(i:L4 R Post Λ t κ bg) s' w' Y (z:Int),Y<m->Y<=i.pS->Cn (eD R Post Λ t κ bg A) R.k t i s' w' R'->u0 R.k.V R.Lf Y t s.l.wl z s'.l->(s'.l.wt s.l.wl).l=O->(O=R.k.V.nl->(s'.l.wt s.l.wl).b=b)->(s'.l.tk t).a=(s.l.tk t).a->Mo f s'/\(z≠1->(s'.l.wt s.l.wl).x=true/\(s'.l.wt s.l.wl).z=z)->(s'.l.tk t).q=(s.l.tk t).q->sN R Post i.σ κ (G (c.finish (i6 z)) cs) w'):
 sN R Post p.σ κ (G (Frame.enter Tryz.prog 152 #[ptr x] .normal) (c::cs)) w:=by
 have C:=p.N7;have i:Gu t p.s0 s:=o.gu;have u:Co R p.σ s p.B:=C.co.gu C.lv i;have Ct:ud R p.σ s p.B t κ bg:={C with co:=u,tn:=o.tn};have i:=C.BW;have Zm:(κ==0)=false:=θ
 have i:=p.lt;have i:=mO (cc:=cD R p.σ) H.hA H.iA u.n5;refine fP.assume i λhK i=>?_;let⟨G,i,TW⟩:=o.hT;have N:s.T t=A.T t:=G;have aaM:s.aS t=A.aS t:=i;have n:Mo s f:=T.mo.trans V.mo;have i:f.T t=s.T t/\f.aS t=s.aS t:=⟨(n.T t o.tn).1,(n.T t o.tn).2.1⟩
 have hgx:oR x 0 [ptr (s.T t)] false∈gS f:=by
  have I:oR x 0 [ptr (s.T t)] false∈wS L:=by rw[zk T];simp
  rcases V with rfl|⟨_,t',w',M,i',T',c',u',v⟩
  .exact gF _ (gU _ I)
  .refine gF _ (gU _ ?_);have i:f.l.wl=L.l.wl:=by rw[v.l];rfl
   unfold wS;refine mL.2 ⟨s.l.wl,aZ.2 (by rw[i,T.l];exact gr _),?_⟩;unfold wR;have e1:f.wb s.l.wl=x:=by rw[v.wb,T.wb];exact sJ rfl
   have i:(f.l.wt s.l.wl).t=(t:Int):=by
    rw[v.l,T.l];by_cases e:s.l.wl=w'
    .rw[<-e];simp[LS.begin,LS.put,LS.tH,LS.wait,LS.cB,upd]
    .simp[LS.begin,LS.put,LS.tH,LS.wait,LS.cB,upd,e]
   simp_all
 have Nd:oR x 0 [ptr (s.T t)] false∈pM f++(R'++dD R p.σ f):=gF _ (gF _ (gU _ hgx));have x0:w.cell? ⟨x,0,none⟩=some (ptr (s.T t)):=(hS.mem (gF _ (aP _ (gF _ (gU _ hgx))))).val (0,0) ⟨aD,aD⟩;have t0:w.cell? ⟨s.T t,0,none⟩=some (ptr R.k.A):=by
  rw[N];exact Has.sat hS (kT.app _)
 have F:=u.Jh (Post:=Post) H κ;rw[Zm]at F;refine Gx F R.k.A (s.T t) R.k.bM (s.aS t) x c cs w x0 t0 (hK.2.1.1 _ (u.sA (⟨R.k.A,3,none⟩,.chan (some R.k.bM)) (bI ..))) ⟨oO δ δ,λh=>by cases h⟩ ⟨oO δ δ,λh=>by cases h⟩ ⟨oO δ δ,λh=>by cases h⟩ (λa ⟨Iz,hsend,Qa⟩=>?_);clear F;have hxw:x<w.heap.size:=au x0;have U:Sat (jO R p.σ) w (pM f++(R'++dD R p.σ f)):=hS.BC;have J5:∀{a b:Nat},a<f.l.tl->b<f.l.tl->f.T a=f.T b->a=b:=fun{a b} F i e=>U.J5 (λr hr=>gF _ (gF _ (gU _ hr))) ⟨pM f++(R'++nD R p.σ),by
  have:=fA (pM f++R') (gS f) (nD R p.σ);simp_all⟩ F i e
 have X:=Jz (c:=c) (cs:=cs) Ct T Qi hF.left hB hxw;generalize M9:(⟨κ,s.l.wl,x,bg,c,cs,R',O,b,(s.l.tk t).a,(s.l.tk t).q,L⟩:yH)=Q at X;have Ta:(p.σ.kE t (s.T t) (s.aS t) Q).tk t=jm Q:=bz ..;have coB:Co R (p.σ.kE t (s.T t) (s.aS t) Q) f w.heap.size:=by
  have i:=V;rcases i with rfl|⟨h99,t',w',M,i',T',c',u',v⟩
  .exact X
  .have i:f.l.tl=L.l.tl+1:=by rw[v.l];rfl
   have i:L.l.tl=s.l.tl:=by rw[T.l];rfl
   have I:=aaP L.l.tl ω;rw[v.T.1,v.T.2.1]at I;simp only[upd,if_true]at I;exact X.gb (w:=w') I (by rw[H.hn];exact h99) (by rw[i,<-u.hk];exact hti.nc) v
 have E:Co R ((p.σ.kE t (s.T t) (s.aS t) Q).rU t {Q with ps:=f}) f w.heap.size:=coB.rU Ta (Mo.refl f);generalize hq:({Q with ps:=f}:yH)=q at E;have P:q=⟨κ,s.l.wl,x,bg,c,cs,R',O,b,(s.l.tk t).a,(s.l.tk t).q,f⟩:=χ
 have b:(p.σ.kE t (s.T t) (s.aS t) Q).rU t q=p.σ.kE t (s.T t) (s.aS t) q:=by
  unfold Gd.rU Gd.kE;rw[P,<-M9,RH]
 rw[b]at E;have V3:q.κ=κ:=by rw[P]
 have qx:q.x=x:=by rw[P]
 have qc:q.c=c:=by rw[P]
 have qs:q.cs=cs:=by rw[P]
 have qR:q.R=R':=by rw[P]
 have GG':=mO (cc:=cD R p.σ) H.hA H.iA E.n5;have J:(p.σ.kE t (s.T t) (s.aS t) q).st=(⟨x,0,none⟩,ptr (s.T t))::p.σ.st:=by simp only[Gd.kE,qx]
 have i:KD R.wI R.k.A (cD R p.σ) (p.σ.kE t (s.T t) (s.aS t) q).st w:=by rw[J];exact⟨hK.1,vT x0 hK.2.1,hK.2.2⟩
 have b:∀w,KD R.wI R.k.A (cD R p.σ) (p.σ.kE t (s.T t) (s.aS t) q).st w->KD R.wI R.k.A (cD R p.σ) p.σ.st w:=λw h=>by rw[J]at h;exact⟨h.1,FI (λy hy=>aP _ hy) (λ_ h=>h) h.2.1,h.2.2⟩
 refine fP.less GG' b i ?_;have b:∀w,KD R.wI R.k.A (cD R p.σ) (p.σ.kE t (s.T t) (s.aS t) q).st w->w.cell? ⟨x,0,none⟩=some (ptr (s.T t))/\w.cell? ⟨s.T t,3,none⟩=some (.chan (some (s.aS t))):=λw h=>by
  rw[J]at h;exact⟨h.2.1.1 _ (bI ..),h.2.1.1 _ (aP _ (u.sT _ (u.cs t o.tn)))⟩
 let⟨nh,hgo⟩:=Qa (KD R.wI R.k.A (cD R p.σ) (p.σ.kE t (s.T t) (s.aS t) q).st) (wD (Mx (s.T t) (s.aS t) x)) w.heap.size w b ⟨⟨_,bI ..,rfl⟩,hxw⟩ ⟨⟨_,aP _ (bI ..),rfl⟩,au t0⟩;have b:R.k.bM∈cD R p.σ:=by simp[cD]
 have i:∀c'∈cD R p.σ,∃M,w.heap[c']? =some (.chan 0 #[] false M M false):=hK.2.1.2;have v:s.aS t∈cD R p.σ:=aP _ (aP _ (gV.2 ⟨_,u.cs t o.tn,rfl⟩));have ND:Sat (jO R (p.σ.kE t (s.T t) (s.aS t) q)) w (pM f++dD R (p.σ.kE t (s.T t) (s.aS t) q) f):=by
  have I:=U.still (u:=ptr (s.T t)) Nd;rw[<-J]at I;have W:=Dn (R:=R) (T:=s.T t) (aS:=s.aS t) (ga o.tn u.tl) C.lv q f;rw[qR]at W;exact I.perm (W.symm.append_left _)
 have hPt:PV (jO R (p.σ.kE t (s.T t) (s.aS t) q)) f (bA f):=by
  have v:f.k=R.k:=n.k.trans u.hk;have I:=hP.still (u:=ptr (s.T t)) U Nd (λr hr=>gF _ (gF _ (gU _ hr))) χ o8;grind
 refine fP.ya (Q':=QD R.k.A) (j:=0) (c:=R.k.bM) (kk:=0) (s:=lz R) (v:=.agg #[]) (a₂:=a) GG' (aT (u.PG H) δ)
  {kc:=λw k h=>YK H.iw b h
   jh:=ω
   jn:=u.Ku
   hj:=C.i0
   hk:=⟨_,rfl⟩
   run:=Iz
   send:=⟨.tuple #[],#[],λd m _=>χ,ψ⟩
   ch:=i _ b} (sh:=lB (s.aS t) c cs) (Ak:=wD (Mx (s.T t) (s.aS t) x)) (nh:=nh+1) (Seat.one_wf _ _ _ _) (λl b=>⟨vm b,λz=>?_⟩) (.inl ⟨nh,w,rfl,by rw[Zm];exact hgo⟩) (λc' I9=>by rw[l7 I9];grind) (λg' s' c' I W h3 h4 h5=>?_) (λM a S hh a=>?_) (λM S a=>EU a (Kp.chan S) ψ)
 .obtain⟨y,hy,rfl⟩:=b;simp only[Mx,ak,bH,or_false]at hy;rcases hy with rfl|rfl<;>exact oO δ δ z
 .let⟨j,D,B,a,I9⟩:=u.inj W h3 h5;have e1:=l7 h4;have a:=(u.pk j D B).tn;have d:=u.ci _ (u.cs j a) _ (u.cs t o.tn) ω;have b:j=t:=J5 (ga a n.tl) (ga o.tn n.tl) (by rw[(n.T j a).1,(n.T t o.tn).1];exact d);rw[b,C.lv]at B;cases B
 .have kc:Kp [] w (w.setChan R.k.bM 0 #[] false (M+1) (M+1) false):=Kp.chan S;have d:=E.Jh (Post:=Post) H 0;have b:(p.σ.kE t (s.T t) (s.aS t) q).Inb=Go.ConcN.upd (Go.ConcN.upd p.σ.Inb κ (some (lB (s.aS t) c cs))) 0 none:=by simp only[Gd.kE,V3,qc,qs]
  have a:(p.σ.kE t (s.T t) (s.aS t) q).St=Go.ConcN.upd p.σ.St κ (wD (Mx (s.T t) (s.aS t) x)):=by simp only[Gd.kE,V3,qx]
  rw[<-b,<-a];refine hh 0 ω (λg=>sN R Post (p.σ.kE t (s.T t) (s.aS t) q) 0 g _) (pE d _) (λg' a=>?_);refine IH m ω (p.σ.kE t (s.T t) (s.aS t) q) f _ g' (by rw[oN];exact E) (λj=>?_) φ ?_ (ND.PZ kc) hPt hQ Rf Q9 Nj (λj D B=>?_) a
  .by_cases e:j=t
   .subst e;show cu p.σ.tk j (jm q) j≠ld;rw[bz];simp
   .show cu p.σ.tk t (jm q) j≠ld;rw[gk _ _ e];exact C.oth j e
  .show p.σ.L=sumTo R.n (λj=>G8 (cu p.σ.tk t (jm q) j));have W:=sumTo_upd p.σ.tk (jm q) G8 (ga o.tn u.tl);rw[C.lv]at W;have h3:=C.L;simp only[G8,Gd.pk]at W h3;unfold cu;simp only[G8]at h3 ⊢;omega
  .by_cases e:j=t
   .subst e;have:D=q:=by
     have h9:cu p.σ.tk j (jm q) j=jm D:=B;rw[bz]at h9;grind
    subst this;refine lV.of λY h c a g Z sat r m k u z fo f1 f2 f3 f4 f5 l=>?_;rw[P]at Z sat fo f1 f2 f3 f4 f5 ⊢;have d:Mo f a:=f4.1;have b:Mo s a:=n.trans d;have i:a.T j=A.T j/\a.aS j=A.aS j/\(a.l.tk j).c=(A.l.tk j).c:=⟨((b.T j o.tn).1).trans N,((b.T j o.tn).2.1).trans aaM,((b.tk j o.tn).1).trans TW⟩;have f:=Z.co.hk;have d:Sat (jO R c) g (pM a++((eD R Post Λ j κ bg A).me R.k j::(R'++dD R c a))):=by
     have n:(eD R Post Λ j κ bg A).me R.k j=x6 a j:=by
      show wF (A.T j) R.k.A j (A.l.tk j).c (A.aS j)=wF (a.T j) a.k.A j (a.l.tk j).c (a.aS j);grind
     grind
    exact K ⟨c,a,g.heap.size,Y,Z,l,ω⟩ a g Y z h (az _) ⟨d,r,m,hF.left.app (Z.co.flat H),Qi,az _,⟨Gu.refl _ _,f,Z.tn,i,o.mo.trans b,Z.co.cs⟩,u,k⟩ fo f1 (λe=>f2 χ) f3 f4 f5
   .have h9:cu p.σ.tk t (jm q) j=jm D:=B;rw[gk _ _ e]at h9;exact(p.rs j D h9).mono hm
end
def Gd.born(σ:Gd)(T c:Nat):Gd:={σ with st:=(⟨T,3,none⟩,.chan (some c))::σ.st,cc:=(T,c)::σ.cc}
section
variable{σ:Gd}{s s':PS}
def Co.born(C:Co R σ s B){T c:Nat}(n:B<=B')(l:B<=c)(k:c<B')(m:T<B'):Co R (σ.born T c) s B':=by
 have m:=C.IB;have d:∀{y:Addr×Value},y∈σ.st->y∈(σ.born T c).st:=λh=>aP _ h;refine{C.mono n with st:=λp i=>?_,sA:=λy f=>d (C.sA y f),sT:=λq a=>?_,cs:=λj c=>aP _ (C.cs j c),ci:=λq a D b e=>?_,cb:=λq a=>?_,L9:=λg x l k=>?_,pk:=λj q a=>?_}
 .rcases ak.1 i with rfl|i
  .simp_all
  .have:=C.st p i;omega
 .rcases ak.1 a with rfl|a
  .exact bI ..
  .exact d (C.sT q a)
 .rcases ak.1 a with rfl|a
  .rcases ak.1 b with rfl|b
   .rfl
   .have:=(C.cb D b).2.1;omega
  .rcases ak.1 b with rfl|b
   .have:=(C.cb q a).2.1;omega
   .exact C.ci q a D b e
 .rcases ak.1 a with rfl|a
  .have:=C.wB;omega
  .have:=C.cb q a;omega
 .let⟨y,f,e⟩:=C.L9 g x l k;exact⟨y,d f,e⟩
 .have P:=C.pk j q a;exact{P with bg:=d P.bg,x:=d P.x}
def RX(H:tZ R){i0:PS}(p:L4 R Post Λ t κ bg)(g:aV)(w:aj)(M:aW)(T j c k:Nat)(d:Int)(u:w.heap[c]? =some (.chan 0 #[] false k k false))(x:p.B<=c)(s:p.B<=w.heap.size)(v:Sat (jO R p.σ) w M)(k:Has M (wF T R.k.A j d c))(K:∀d:L4 R Post Λ t κ bg,(∀(a:Addr)(wr:Bool),jO R p.σ a wr->(wr=true->a≠⟨T,3,none⟩)->jO R d.σ a wr)->nD R d.σ=nD R p.σ->d.s0=p.s0->d.pS=p.pS->p.B<=d.B->d.B<=w.heap.size->(T,c)∈d.σ.cc->(∀q∈p.σ.cc,q∈d.σ.cc)->sN R Post d.σ κ g w):sN R Post p.σ κ g w:=by
 have C:=p.N7;have d:c<w.heap.size:=(cU.1 u).1;let⟨_,i,g⟩:=k;have j:w.cell? ⟨T,3,none⟩=some (.chan (some c)):=v.val i _ g (0,3) ⟨aD,(by decide:3<4)⟩;have g:T<w.heap.size:=au j;have m:Co R (p.σ.born T c) p.s0 w.heap.size:=C.co.born s x d g;have d:=mO (cc:=cD R p.σ) H.hA H.iA C.co.n5;have r:=mO (cc:=cD R (p.σ.born T c)) H.hA H.iA m.n5;refine fP.assume d λf d=>?_;have n:KD R.wI R.k.A (cD R (p.σ.born T c)) (p.σ.born T c).st w:=by
  refine⟨f.1,⟨(vT j f.2.1).1,λA b=>?_⟩,f.2.2⟩;simp only[cD,Gd.born,nP,ak]at b;rcases b with rfl|rfl|rfl|b
  .exact f.2.1.2 _ (bI ..)
  .exact f.2.1.2 _ (aP _ (bI ..))
  .simp_all
  .exact f.2.1.2 _ (aP _ (aP _ b))
 have d:∀w,KD R.wI R.k.A (cD R (p.σ.born T c)) (p.σ.born T c).st w->KD R.wI R.k.A (cD R p.σ) p.σ.st w:=λw h=>⟨h.1,FI (λy l=>aP _ l) (λA b=>by
  simp only[cD,Gd.born,nP,ak]at b ⊢;grind) h.2.1,h.2.2⟩
 refine fP.less r d n ?_;refine K ⟨p.σ.born T c,p.s0,w.heap.size,p.pS,{C with co:=m,bg:=aP _ C.bg},p.rs,p.lt⟩ (λa wr o a=>⟨o.1,λz=>⟨(o.2 z).1,fun⟨y,l,e⟩=>?_⟩⟩) rfl rfl rfl s (az _) (bI ..) (λq a=>aP _ a);rcases ak.1 l with rfl|l
 .simp_all
 .exact(o.2 z).2 ⟨y,l,e⟩
def NM(H:tZ R)(G:∀m,m<Λ->p7 R Post m){i0:PS}(a:t<i0.l.tl):jF (eD R Post Λ t κ bg i0) R.k R.Lf t:=
 {V:=H.V
  it:=a
  f:=λp=>by
   have F:=p.N7.co.Jh (Post:=Post) H κ;have a:(κ==0)=false:=by have:=p.N7.BW;simp;omega
   rw[a]at F;exact F
  hB:=λp=>p.N7.co.hB H
  wait:=λp s v u w i x O d b cb c cs R' m o f _ _ z t e A C B q r l n D h E a y K=>LV H G p s v u w i x O d b cb c cs R' m o f z t e A C B q r l n D h E a y K
  born:=λp g w M T j c k h f e d b a K=>RX H (i0:=i0) p g w M T j c k h f e d b a K}
end
def NV(w:aj):(binOp .eql 20 .nilIface .nilIface).events prog w #[]=#[]:=ρ
def NU(w:aj):(binOp .neq 20 .nilIface .nilIface).events prog w #[]=#[]:=ρ
def R7(A T bJ bg bt X:Nat)(fr:aC)(cs:cO):Prop:=∀(I:dh)(S:gi)(w3:aj)(u:ay),aB prog false (DX I) S->w3.cell? ⟨bt,0,none⟩=some (.pointer (some ⟨T,0,none⟩))->w3.cell? ⟨X,0,none⟩=some (.pointer (some ⟨A,0,none⟩))->w3.cell? ⟨A,4,none⟩=some (.chan (some bJ))->w3.cell? ⟨T,7,none⟩=some u->w3.frozen? ⟨T,7,none⟩=false->
 I ⟨bt,0,none⟩ false->I ⟨X,0,none⟩ false->I ⟨A,4,none⟩ false->I ⟨T,7,none⟩ true->(∀gE w4,Sq A bJ bg gE->Kp [] w3 w4 [⟨T,7,none⟩]->w4.cell? ⟨T,7,none⟩=some (.bool true)->w4.frozen? ⟨T,7,none⟩=false->S gE w4)->S (G (fr.finish (.tuple #[])) cs) w3
def L5(F:aB prog false (DX I) S)(x:Nat)(fn:Func)(q:prog.funcs[x]? =some fn)(p:(fn.name== "runtime.NumGoroutine")=false)(r:fn.body.isNone=false)(A T y bg l z k X H E J:Nat)(g:aj)(v:g.cell? ⟨l,0,none⟩=some (.func (.func 61) #[] #[.pointer (some ⟨z,0,none⟩),.pointer (some ⟨k,0,none⟩),.pointer (some ⟨X,0,none⟩)]))(s:g.cell? ⟨z,0,none⟩=some (.func (.func x) #[] #[.pointer (some ⟨H,0,none⟩),.pointer (some ⟨E,0,none⟩),.pointer (some ⟨J,0,none⟩)]))(t:g.cell? ⟨k,0,none⟩=some (.pointer (some ⟨T,0,none⟩)))(O:I ⟨l,0,none⟩ false)(N:I ⟨z,0,none⟩ false)(M:I ⟨k,0,none⟩ false)(z:∀D cs,R7 A T y bg k X D cs->S (G (Frame.enter prog x #[.pointer (some ⟨T,0,none⟩),.pointer (some ⟨H,0,none⟩),.pointer (some ⟨E,0,none⟩),.pointer (some ⟨J,0,none⟩)] .normal) (D::cs)) g):S (born prog (call89 bg l)) g:=by
 refine(pE F g).step _ _ rfl (λw _=>⟨#[],Od bg l w,ψ⟩) ?_;unfold JU;refine F.cF ?_;refine F.aJ ?_;refine F.GD rfl rfl δ rfl rfl rfl ?_;walk_nrm;refine F.CZ ?_;refine F.ow ?_;refine F.Cg rfl rfl δ rfl rfl func61 φ φ ?_;try walk_nrm
 simp only[enter_at _ func61 rfl,ntmps61];walk_nrm;refine F.cF ?_;refine F.ow ?_;refine F.ow ?_;refine F.Cg rfl rfl δ rfl rfl q p r ?_;try walk_nrm
 refine z _ _ ?_;clear F v s t O N M z;intro I S m u F b i j f iO g g g g Q;have g:=NU;have g:=NV;have n:Kp [] m m [⟨T,7,none⟩]:=Kp.refl _;rw[bQ];try walk_nrm
 refine F.dA ?_;refine F.ow ?_;iterate 2 (refine F.aJ ?_)
 refine F.op rfl rfl δ (λd K C=>?_);go_simp;rw[setCell_at'];refine C _ _ ⟨DX.set _ (by(first|assumption|(apply o<;>dsimp only<;>omega))) (λe P=>?_),?_⟩
 .have B:=mem_listed P;simp[go_sem,storedEv,gP, *]at B;subst B;exact .inl ⟨_,rfl,rfl,by(first|assumption|(apply o<;>dsimp only<;>omega)),by simp only[iL,size_set];first|omega|exact au (by assumption)⟩
 clear C K d;try walk_nrm
 generalize a:World.setCell m _ _=L;have e:=lu a;replace iO:=eF iO a;replace i:=dQ i a ψ;replace j:=dQ j a Θ;replace b:=dQ b a Θ;replace f:=kP f a;replace n:=n.EH a (by first|(left;simp;done)|(right;left;simp;done)|(right;right;dsimp only;omega));refine F.CZ ?_;refine F.ow ?_;iterate 2 (refine F.aJ ?_)
 refine F.ow ?_;refine F.aJ ?_;refine Q _ L ⟨rfl,λd=>?_,λKK R h=>?_⟩ n f iO
 .rfl
 clear F;have F:=rN (P:=prog) (K:=KK) (Gp:=hU A) 0;rw[served_fr,bQ];try walk_nrm
 refine F.Du func61 ?_;rw[bQ];try walk_nrm
 refine F.re ?_;refine F.ctl (λ_=>stepG_end) ?_;refine F.ctl (λ_=>tj rfl func89 φ rfl) ?_;simp only[ntmps89,ZP,Nat.reduceAdd,Nat.reduceSub];refine F.sq ?_;refine F.cF ?_;refine F.ctl (λ_=>Qh rfl rfl rfl rfl rfl rfl) ?_;walk_nrm;refine F.oq rfl rfl rfl η (λw c=>ζ) ?_;try walk_nrm
 refine F.dA ?_;iterate 2 (refine F.oq rfl rfl rfl (λw c=>by first|(simp[go_sem];done)|simp[go_sem, *]) (λw c=>by go_simp;first|exact⟨rfl,rfl⟩|exact rfl) ?_;try walk_nrm)
 refine F.re ?_;refine F.cf rfl ?_;refine F.sk ?_;refine F.zA ?_;apply F.opn rfl rfl δ
 .intro w c;exact tK (ad:=⟨bg,0,none⟩) ρ (by simp[go_sem,h w c])
 .intro w c;have d:=h w c;go_simp;rfl
 try walk_nrm
 refine F.uO func90 ?_;simp only[enter_at _ func90 rfl,ntmps90];walk_nrm;refine F.zA ?_;refine F.oq rfl rfl rfl η (λw c=>ζ) ?_;try walk_nrm
 refine F.uO func87 ?_;refine Dh A R _ _ ?_;clear F;have F:=nX (P:=prog) 0;rw[bQ];try walk_nrm
 refine F.Du func90 ?_;rw[bQ];try walk_nrm
 refine F.re ?_;refine F.ctl (λ_=>stepG_end) ?_;refine F.ctl (λw=>stepG_leave_deferred rfl rfl func89 (resultsC_none φ _ w).1 (resultsC_none φ _ w).2 rfl) ?_;exact Il _
def Sat.MZ{m l i t:ay}(h:Sat I w (oR b o [m,l,i,t] true::M))(k:Kp [] w w' [⟨b,o+3,none⟩])(B:w'.cell? ⟨b,o+3,none⟩=some v)(w:w'.frozen? ⟨b,o+3,none⟩=false)(w:∀r∈M,∀g e n,r.row=some (g,e,n)->b≠g):Sat I w' (oR b o [m,l,i,v] true::M):=by
 rw[sat_iff]at h ⊢;let⟨A,v⟩:=h;have H:=A _ (bI ..);let⟨y,h⟩:=iG.1 v;have f:∀{x:ay}(j:Ix),(oR b o [m,l,i,x] true).has j↔(oR b o [m,l,i,t] true).has j:=λj=>Iff.rfl;refine⟨λr d=>?_,iG.2 ⟨λr d i j p a c e=>y r d (.inl rfl) j p ((f j).1 a) c e,h⟩⟩;rcases ak.1 d with rfl|d
 .refine⟨λj a=>?_,λj a=>?_,λ_ j p a c e=>H.inj rfl j p ((f j).1 a) ((f p).1 c) e,λ_ _ _ z=>by cases z⟩
  .let⟨c,u⟩:=j;have q:u<4:=a.2;have s:c=0:=uj.1 a.1;subst s;match u,q with
   |0,_=>exact k.cellC _ _ ψ ψ (H.val (0,0) ⟨aD,(by decide:0<4)⟩)
   |1,_=>exact k.cellC _ _ ψ ψ (H.val (0,1) ⟨aD,(by decide:1<4)⟩)
   |2,_=>exact k.cellC _ _ ψ ψ (H.val (0,2) ⟨aD,(by decide:2<4)⟩)
   |3,_=>exact B
  .have:=H.ok j ((f j).1 a);refine⟨this.1,λz=>⟨(this.2 rfl).1,?_⟩⟩;by_cases e:j.2=3
   .simp_all
   .exact(k.Q6 _ _ ψ ψ (H.val j ((f j).1 a))).trans (this.2 rfl).2
 .have R:=A r (aP _ d);have c:∀j,r.has j->r.ad j∉[(⟨b,o+3,none⟩:Addr)]:=λj a z=>by
   simp only[ak,bH,or_false]at z;exact y r d (.inl rfl) (0,3) j ⟨aD,(by decide:3<4)⟩ a z.symm
  refine⟨λj a=>k.cellC _ _ ψ (c j a) (R.val j a),λj a=>⟨(R.ok j a).1,λz=>⟨((R.ok j a).2 z).1,(k.Q6 _ _ ψ (c j a) (R.val j a)).trans ((R.ok j a).2 z).2⟩⟩,R.inj,λg e n h=>?_⟩;let⟨f,d,a,c,b⟩:=R.row g e n h;exact⟨f,d,a,k.blk g a e (0,0) ψ (λx a=>χ) c,b⟩
def Gd.py(σ:Gd)(R:RN)(t:Nat)(X:aW):Gd:={σ with L:=σ.pk R,Inb:=cu σ.Inb 0 none,tk:=cu σ.tk t Da,dn:=X++σ.dn}
section
variable{σ:Gd}{s s':PS}
def Fc(a:σ.tk t=ld):tv R (cu σ.tk t Da)=tv R σ.tk:=by
 unfold tv;congr 1;funext j;by_cases e:j=t
 .subst e;rw[bz,a];rfl
 .rw[gk _ _ e]
def vk(a:TQ->Nat)(b:a Da=a ld)(b:t<R.n)(c:σ.tk t=ld):sumTo R.n (λj=>a (cu σ.tk t Da j))=sumTo R.n λj=>a (σ.tk j):=by
 have h:=sumTo_upd σ.tk Da a b;simp_all
def N9(C:ud R σ s B t κ bg){X:aW}(G:Flat X)(H:B<=B')(v:t<R.k.V.nc->fu X (s.oh t) (s.l.ou t).b.ch):Co R (σ.py R t X) s B':=by
 have d:=C.co;have a:∀j,j≠t->(σ.py R t X).tk j=σ.tk j:=λj k=>gk _ _ k;have r:∀j,(σ.py R t X).tk j=none\/(∃q,(σ.py R t X).tk j=jm q)->j≠t:=λj h e=>by
  have h:(σ.py R t X).tk t=Da:=bz ..;simp_all
 have h:t<R.n:=ga C.tn d.tl;have f1:(σ.py R t X).sd R=σ.sd R:=vk A6 rfl h C.lv;refine{d.mono H with st:=λp h=>?_,fr:=λj k=>by rw[a j (by have:=C.tn;omega)];exact d.fr j k,L9:=λg y n i=>?_,yN:=λg e n i=>?_,pk:=λj D b=>?_,jz:=λj k=>?_,all:=λf m=>⟨λl=>?_,λD l=>?_⟩,wa:=λw F E o=>?_,nb:=?_,ed:=λj k o=>?_,RE:=G.app d.RE,dW:=by let⟨Y,e⟩:=d.dW;exact⟨X++Y,by show X++σ.dn=_;simp_all⟩}
 .have:=d.st p h;omega
 .have c:(cu σ.Inb 0 none g).isSome:=n;by_cases A:g=0
  .subst A;rw[bz]at c;cases c
  .rw[gk _ _ A]at c;exact d.L9 g y c i
 .have c:cu σ.Inb 0 none g=some e:=n;rw[gk _ _ i]at c;let⟨j,D,b,u⟩:=d.yN g e c i;exact⟨j,D,by rw[a j (λz=>by rw[z,C.lv]at b;cases b)];exact b,u⟩
 .have e:=r j (.inr ⟨D,b⟩);rw[a j e]at b;have P:=d.pk j D b;exact{P with yN:=by show cu σ.Inb 0 none D.κ=_;rw[gk _ _ (by have:=P.BW;omega)];exact P.yN}
 .let⟨f,n,i,x⟩:=d.jz j k;refine⟨f,n,i,?_⟩;by_cases e:f=t
  .subst e;rw[C.lv]at x;grind
  simp_all
 .have e:=r f (.inl l);rw[a f e]at l;exact(d.all f m).1 l
 .have e:=r f (.inr ⟨D,l⟩);rw[a f e]at l;exact(d.all f m).2 D l
 .let⟨f,D,i,x⟩:=d.wa w F E o;exact⟨f,D,by rw[a f (λz=>by rw[z,C.lv]at i;cases i)];exact i,x⟩
 .rw[f1];exact d.nb
 .by_cases e:j=t
  .subst e;exact((v k).pre σ.dn).pre R.S
  .rw[a j e]at o;have:=(d.ed j k o).app X;rw[<-dU]at this;exact this
def Rx(H:tZ R)(K:∀m,m<Λ->p7 R Post m)(p:L4 R Post Λ t κ bg){n:aV}{X:aW}(z:Sq R.k.A R.k.bJ bg n)(f:Gu t p.s0 s)(b:t<s.l.tl)(E:Sat (jO R p.σ) w (pM s++((X++R')++dD R p.σ s)))(G:PV (jO R p.σ) s (bA s))(F:QI s)(x:TI s)(y:Hs R s)(v:Flat ((X++R')++nD R p.σ))(J:p.B<=w.heap.size)(c:Fin R.k.V R.Lf m none s.l)(B:m<=p.pS)(a:t<R.k.V.nc->fu X (s.oh t) (s.l.ou t).b.ch):sN R Post p.σ κ n w:=by
 have C:=p.N7;have i:Co R p.σ s p.B:=C.co.gu C.lv f;have L:ud R p.σ s p.B t κ bg:={C with co:=i,tn:=b};have r:t<R.n:=ga b i.tl;have o:=C.BW;have q:(κ==0)=false:=θ
 have b:=p.lt;have A:=mO (cc:=cD R p.σ) H.hA H.iA i.n5;refine fP.assume A λI b=>?_;have f:=N9 (X:=X) L v.left.left J a;have b:R.k.bJ∈cD R p.σ:=by simp[cD]
 let⟨_,v⟩:=z.dp (KD R.wI R.k.A (cD R p.σ) p.σ.st) (λW h=>h.2.2.1) (λW h=>h.2.1.1 _ C.bg);have f2:(p.σ.py R t X).pk R=p.σ.pk R:=vk G8 rfl r C.lv;have r:Sat (jO R (p.σ.py R t X)) w (pM s++dD R (p.σ.py R t X) s):=by
  have J:Sat (jO R p.σ) w (pM s++(X++dD R p.σ s)):=E.sub (nN ψ _);have e:dD R (p.σ.py R t X) s=(gS s++tv R p.σ.tk)++(X++(p.σ.dn++R.S)):=by
   show gS s++(tv R (cu p.σ.tk t Da)++((X++p.σ.dn)++R.S))=_;rw[Fc C.lv,dU,dU]
  rw[e];refine J.perm (eN _ ?_);have:=fA X (gS s++tv R p.σ.tk) (p.σ.dn++R.S);rw[dU (gS s)]at this;exact this
 have key:fP prog Post (KD R.wI R.k.A (cD R p.σ) p.σ.st) (QD R.k.A) (jq R.l) p.σ.St p.σ.Inb (hU R.k.A) (p.σ.pk R+1) p.σ.nb κ p.σ.ng 0 n w:=by
  refine fP.F9 (Q':=QD R.k.A) (j:=0) (c:=R.k.bJ) (kk:=1) (s:=lz R) (v:=.agg #[]) (a₂:=n) A (aT (i.PG H) δ)
   {kc:=λw k h=>YK H.ie b h
    jh:=ω
    jn:=i.Ku
    hj:=C.i0
    hk:=⟨_,rfl⟩
    run:=z.run
    send:=⟨.tuple #[],#[],λd m _=>by rw[q];exact z.send _,ψ⟩
    ch:=I.2.1.2 _ b} o v (λd b a h b=>?_) (λd a b=>EU b (Kp.chan a) ψ)
  have kc:Kp [] w (w.setChan R.k.bJ 0 #[] false (d+1) (d+1) false):=Kp.chan a;have a:=f.Jh (Post:=Post) H 0;refine h 1 ω (λg=>sN R Post (p.σ.py R t X) 0 g _) (pE a _) (λb a=>?_);refine K m ω (p.σ.py R t X) s _ b (by rw[oN];exact f) (λj=>?_) (bz p.σ.Inb 0 none) f2.symm (r.PZ kc) G F x y c (λj D u=>?_) a
  .by_cases e:j=t
   .subst e;show cu p.σ.tk j Da j≠ld;rw[bz];simp
   .show cu p.σ.tk t Da j≠ld;rw[gk _ _ e];exact C.oth j e
  .have l:cu p.σ.tk t Da j=jm D:=u;by_cases e:j=t
   .rw[e,bz]at l;cases l
   .rw[gk _ _ e]at l;exact(p.rs j D l).mono B
 rw[<-C.L]at key;exact key
def Has.rd(h:Sat I w M)(a:Has M (oR b o (v::U) false)):I ⟨b,o,none⟩ false:=by
 let⟨_,i,b⟩:=a;exact(h.ok i _ b (0,0) ⟨aD,ψ⟩).1
def Cn.ended{b:Type}{E:TE b}{a:PK}{p:b}{b:aj}(C:Cn E a t p s w R')(f:Kp [] w b [⟨E.T,7,none⟩])(h:b.cell? ⟨E.T,7,none⟩=some (.bool true))(f7:b.frozen? ⟨E.T,7,none⟩=false):Cn E a t p {s with l:=s.l.done t} b R':=by
 have c:=C.mine;unfold j7 at c;have b:=l9 (b:=E.T) C.sat C.pv (C.TJ.cons rfl) (i0:=7) (r0:=E.me a t) rfl δ δ (j0:=(0,0)) ⟨aD,(by decide:0<4)⟩ rfl;rw[C.cp.hT.1]at c;have pm:(pM s++([dO E.T (j9 s.wb (s.l.tk t).o) (su (s.bf t) (s.bl t).length) (s.l.tk t).x (s.l.tk t).e,fR ⟨(s.bf t).g,(s.bf t).o,none⟩ 1 (s.bf t).v (rK (s.bf t)) true,wF E.T s.k.A t (s.l.tk t).c (s.aS t)]++(E.me a t::(R'++(tX s t++E.O p))))).Perm (pM s++(E.me a t::(R'++E.P p s))):=by
  refine eN _ ?_;have d:=((jw s C.tn).append_right (E.O p)).append_left (E.me a t::R');unfold j7 at d;rw[dU,C.cp.hT.1]at d;refine List.Perm.trans ?_ d.symm;exact fA _ (E.me a t::R') _
 have i:=(c.perm (eY (l₁:=pM s))).MZ (v:=.bool true) f h f7 (λr a g e n h=>b r (pm.mem_iff.1 (by
  rcases dJ.1 a with z|z
  .simp_all
  simp_all)) g e n h)
 refine C.ZY (s':={s with l:=s.l.done t}) C.tn (x:=(s.l.tk t).x) (e:=true) rfl (λz=>absurd rfl z) ?_ f.size;rw[C.cp.hT.1];exact i.perm (eY (l₁:=pM s)).symm
def L6(H:tZ R)(d:∀κ bg i0,rB (eD R Post Λ t κ bg i0) R.k t)(D:∀m,m<Λ->p7 R Post m){i0:PS}(p:L4 R Post Λ t κ bg){bf bw bt:Nat}(C:Cn (eD R Post Λ t κ bg i0) R.k t p s w R')(c:t<i0.l.tl)(u:i0.wk t=s.wk t)(x:Fin R.k.V R.Lf m (some (t,(s.l.tk t).p,none)) s.l)(A:m<=p.pS)(o:∀r,Has R.S r->Has R' r)(e:Has R' (oR bf 0 [.func (.func 61) #[] #[ptr bw,ptr bt,ptr X]] false))(a:Has R' (oR bw 0 [s.wk t] false))(b:Has R' (oR bt 0 [ptr (i0.T t)] false))(B:Has R' (oR X 0 [ptr R.k.A] false)):sN R Post p.σ κ (born prog (call89 bg bf)) w:=by
 have W:=NM (κ:=κ) (bg:=bg) (Post:=Post) (i0:=i0) H D c;have E:=d κ bg i0;have c:∀{r},Has R' r->Has (pM s++((eD R Post Λ t κ bg i0).me R.k t::(R'++(eD R Post Λ t κ bg i0).P p s))) r:=λh=>(h.pre _).cons.app _;have G:Co R p.σ s p.B:=p.N7.co.gu p.N7.lv C.cp.gu;have tail:∀(i:aC)(cs:cO),R7 R.k.A (i0.T t) R.k.bJ bg bt X i cs->Jx (eD R Post Λ t κ bg i0) R.k R.Lf t m i cs R':=by
  intro i cs m d j s' w' z d s f v y;have d:∀{r},Has R' r->Has (pM s'++((eD R Post Λ t κ bg i0).me R.k t::((z++R')++(eD R Post Λ t κ bg i0).P j s'))) r:=λh=>((h.app z).pre _).cons.app _;let⟨_,h,g⟩:=d (o _ H.ch);have F:=f.sat.val h _ g (0,1) ⟨aD,(by decide:1<2)⟩;have r:=(f.sat.ok h _ g (0,1) ⟨aD,(by decide:1<2)⟩).1;have h:=f.mine;have g:nth (pM s'++(j7 s' t++((eD R Post Λ t κ bg i0).me R.k t::((z++R')++(tX s' t++(eD R Post Λ t κ bg i0).O j))))) 7=some (dO (s'.T t) (j9 s'.wb (s'.l.tk t).o) (su (s'.bf t) (s'.bl t).length) (s'.l.tk t).x (s'.l.tk t).e):=rfl;have q:=h.val 7 _ g (0,3) ⟨aD,(by decide:3<4)⟩;have l:=(h.ok 7 _ g (0,3) ⟨aD,(by decide:3<4)⟩).2 rfl;have g:s'.T t=i0.T t:=f.cp.hT.1;replace q:w'.cell? ⟨s'.T t,7,none⟩=some (.bool (s'.l.tk t).e):=q;replace l:(eD R Post Λ t κ bg i0).Ok j ⟨s'.T t,7,none⟩ true/\w'.frozen? ⟨s'.T t,7,none⟩=false:=l;rw[g]at q l;refine m _ _ w' _ (W.f j) (Has.sat f.sat (d b)) (Has.sat f.sat (d B)) F q l.2 (Has.rd f.sat (d b)) (Has.rd f.sat (d B)) r l.1 λd d h g r f7=>?_;have d:=f.ended g r f7;exact Rx H D j h d.cp.gu d.tn (Sat.BC d.sat) d.pv d.qi d.ti d.ln d.fl d.bd v s y
 by_cases d:t<R.k.V.nc
 .have f:=G.wk t d;rw[f]at a;let⟨_,_,_,f⟩:=C.ti.cl t C.tn;rw[(f (by rw[C.hk];exact d)).2]at x;refine L5 (W.f p) 30 f30 func30 φ φ R.k.A (i0.T t) R.k.bJ bg bf bw bt X R.bl R.bo (R.bi t) w (Has.sat C.sat (c e)) (Has.sat C.sat (c a)) (Has.sat C.sat (c b)) (Has.rd C.sat (c e)) (Has.rd C.sat (c a)) (Has.rd C.sat (c b)) λi cs m=>LQ W E d C x A (o _ H.Ja) (o _ (H.hbi t d)) (o _ H.KP) (tail i cs m)
 .have d:R.k.V.nc<=t:=ω
  let⟨n,g,h,f,k,U,_,_,_,_,_,_,j,_⟩:=C.ti.wk t (by rw[C.hk];exact d) C.tn;rw[j]at a;refine L5 (W.f p) 185 f185 func185 φ φ R.k.A (i0.T t) R.k.bJ bg bf bw bt X g h f w (Has.sat C.sat (c e)) (Has.sat C.sat (c a)) (Has.sat C.sat (c b)) (Has.rd C.sat (c e)) (Has.rd C.sat (c a)) (Has.rd C.sat (c b)) λi cs m=>JP (k:=0) W E d C x A j u (tail i cs m)
end
def zM(a:Nat->qy):∀n,(cj a n=-1/\∀j,j<n->(a j).o=true)\/∃k:Nat,k<n/\cj a n=k/\(a k).o=false/\∀j,j<n->(a j).o=false->j=k\/fQ a k j
 |0=>.inl ⟨rfl,λj d=>ω⟩
 |n+1=>by
  unfold cj;rcases zM a n with ⟨g,f⟩|⟨k,g,f,h,g⟩
  .grind
  .rw[f];by_cases c:(a n).o=false/\((k:Int)<0\/(a n).a<(a (k:Int).toNat).a)
   .rw[sJ c];have f:(a n).a<(a k).a:=by
     grind
    refine .inr ⟨n,ω,rfl,c.1,λj d b=>?_⟩;by_cases e:j=n
    .exact .inl e
    .refine .inr (.inl ?_);rcases g j ω b with z|z|z
     .simp_all
     .omega
     omega
   .rw[af c];refine .inr ⟨k,ω,rfl,h,λj d b=>?_⟩;by_cases e:j=n
    .subst e;right;have:¬((a j).a<(a k).a):=λz=>c ⟨b,.inr ξ⟩;unfold fQ;omega
    grind
def nE{a:Nat->qy}(h:fQ a i j)(b:fQ a j i):False:=by
 unfold fQ at h b;omega
def MK{s:PS}(Q:QI s)(d:s.q=i::D):cj s.l.ag s.l.al=i:=by
 have e:=Q.lt i ξ;rcases zM s.l.ag s.l.al with ⟨f,b⟩|⟨k,f,b,h,g⟩
 .grind
 .have a:=Q.all k f h;rw[d]at a;rcases ak.1 a with rfl|a
  .exact b
  .have c:=Q.pN;rw[d]at c;have d:=(iG.1 c).1 k a;rcases g i e.1 e.2 with z|z
   .rw[b,z]
   .exact(nE d z).elim
def Ft{s:PS}(Q:QI s)(a:s.q=[]):cj s.l.ag s.l.al=-1:=by
 rcases zM s.l.ag s.l.al with ⟨a,b⟩|⟨k,a,b,b,c⟩
 .exact a
 .have c:=Q.all k a b;simp_all
abbrev PS.bD(s:PS)(i:Nat)(D:aN)(en:ay)(eb:mW):PS:={s with en:=en,eb:=eb,q:=D,l:=s.l.pop i}
def fW(s:PS)(i j:Nat)(D:aN)(en:ay)(a:mW):((s.bD i D en a).l.ag j).a=(s.l.ag j).a/\((s.bD i D en a).l.ag j).t=(s.l.ag j).t/\((s.bD i D en a).l.ag j).w=(s.l.ag j).w/\((s.bD i D en a).l.ag j).c=(s.l.ag j).c/\(j≠i->((s.bD i D en a).l.ag j).o=(s.l.ag j).o):=by
 show(upd s.l.ag i _ j).a=_/\(upd s.l.ag i _ j).t=_/\(upd s.l.ag i _ j).w=_/\(upd s.l.ag i _ j).c=_/\(j≠i->(upd s.l.ag i _ j).o=_);unfold upd;grind
def QI.bD{s:PS}(Q:QI s){i:Nat}{D:aN}(n:s.q=i::D)(en:ay)(c:mW):QI (s.bD i D en c)/\bA s=fF s i::bA (s.bD i D en c):=by
 have m:=Q.pN;rw[n]at m;let⟨l,p⟩:=iG.1 m;have g:∀j∈D,j≠i:=λj d e=>by subst e;exact nE (l j d) (l j d)
 have f:∀j∈D,j∈s.q:=λj d=>ξ
 refine⟨⟨λj d=>?_,λj q o=>?_,?_,λj d=>?_,λj d=>?_⟩,?_⟩
 .have:=Q.lt j (f j d);exact⟨this.1,by rw[(fW s i j D en c).2.2.2.2 (g j d)];exact this.2⟩
 .have k:j≠i:=λe=>by
   subst e;have:((s.bD j D en c).l.ag j).o=true:=by show(upd s.l.ag j _ j).o=true;unfold upd;simp
   simp_all
  rw[(fW s i j D en c).2.2.2.2 k]at o;have:=Q.all j q o;simp_all
 .refine p.imp fun{a b} h=>?_;unfold fQ at h ⊢;rw[(fW s i a D en c).1,(fW s i b D en c).1];exact h
 .rw[(fW s i j D en c).2.2.2.1,(fW s i j D en c).2.2.1];exact Q.ws j (f j d)
 .have:=Q.cv j (f j d);unfold Mz at this ⊢;rw[(fW s i j D en c).2.1,(fW s i j D en c).2.2.1,(fW s i j D en c).2.2.2.1];exact this
 .unfold bA;rw[n,nP];congr 1;refine u7 λj d=>?_;unfold fF;rw[(fW s i j D en c).1,(fW s i j D en c).2.2.1,(fW s i j D en c).2.2.2.1]
def AR(F:aB prog true (DX I) S){s:PS}{C:aW}(hB:HB w.heap.size I)(H:Sat I w (pM s++C))(m:PV I s (bA s))(hC:Flat C)(Q:QI s)(hq:s.q=i::D)(hg:qo s.k.A cs g){f:FuncId}{fn:Func}{fst V:gd}(he:(fF s i).2=.func (.func f) fst V)(hf:prog.funcs[f]? =some fn)(A:(fn.name== "runtime.NumGoroutine")=false)(T:fn.body.isNone=false)(K:∀R p h d,pJ s.k.A cs R->Kp [] w p [⟨s.k.A,0,none⟩,⟨s.k.A,1,none⟩]->Sat I p (pM (s.bD i D h d)++C)->PV I (s.bD i D h d) (bA (s.bD i D h d))->QI (s.bD i D h d)->S (G (Frame.enter prog f (fst++V) .normal) (R::cs)) p):S g w:=by
 have Y7:=(Q.bD hq s.en s.eb).2;have t:=m.en;have h0:=H.val 0 _ rfl (0,0) ⟨aD,(by decide:0<2)⟩;have h1:=H.val 0 _ rfl (0,1) ⟨aD,(by decide:1<2)⟩;have o0:=H.ok 0 _ rfl (0,0) ⟨aD,(by decide:0<2)⟩;have X:=H.ok 0 _ rfl (0,1) ⟨aD,(by decide:1<2)⟩;have hA:s.k.A<w.heap.size:=au h0;have E:s.eb.c=1:=by
  rcases t.2 with ⟨_,z,_⟩|⟨_,_,_,z,_⟩
  .simp_all
  .exact z
 let⟨hAE,G⟩:=m.eo E;have hE:fZ (s.k.A+1) w s.en (bA s):=Mp H (i:=1) rfl t (λ_=>hAE);have v:∀b,b∈cw s.en->b=s.eb.E:=λb T=>by
  rcases t.2 with ⟨_,z,_⟩|⟨o,c,W,_⟩
  .omega
  .rw[W,bS]at T;simp[Value.ownBlock]at T;omega
 rw[Y7]at hE;have b:fF s i=((s.l.ag i).a,.func (.func f) fst V):=by
  rw[<-he];rfl
 rw[b]at hE;refine Pw F (s.k.A+1) s.k.A cs (s.l.ag i).a f fn fst V _ s.en _ g w hg hf A T hE (gr _) hA h0 (o0.2 rfl).2 h1 (X.2 rfl).2 X.1 (X.2 rfl).1 (o0.2 rfl).1 (λa b=>G a false (v _ b)) hB λR p h P Y b0 a b1 W KI Z=>?_;have b:=l9 (b:=s.k.A) H m hC (i0:=0) (j0:=(0,0)) rfl δ δ ⟨aD,(by decide:0<2)⟩ rfl;have a:Sat I w (bR s.k.A [i6 s.l.now,s.en]::((pM s).tail++C)):=H;have B:=(iG.1 (sat_iff.1 a).2).1;have hT:Sat I p ((pM s).tail++C):=by
  refine(a.tail).kp Y (λr l j k z=>?_) (λr l g e n hg x a=>?_)
  .simp only[ak,bH,or_false]at z;rcases z with z|z
   .exact B r l (.inl rfl) (0,0) j ⟨aD,(by decide:0<2)⟩ k z.symm
   .exact B r l (.inl rfl) (0,1) j ⟨aD,(by decide:1<2)⟩ k z.symm
  .have:=b r (aP _ l) g e n hg;grind
 have q:∀d:mW,(d=s.eb\/d={s.eb with c:=0})->Sat I p (pM (s.bD i D h d)++C):=λd a=>by
  have Q3:Sat I p (eR d::((pM s).tail.tail++C)):=by
   rcases a with rfl|rfl
   .exact hT
   .have O:Sat I p (eR s.eb::((pM s).tail.tail++C)):=hT;rw[sat_iff]at O ⊢;refine⟨λr l=>?_,iG.2 ⟨λr l _ j J k _=>absurd k.1 (uk _),(iG.1 O.2).2⟩⟩;rcases ak.1 l with rfl|l
    .exact⟨λj k=>absurd k.1 (uk _),λj k=>absurd k.1 (uk _),λ_ j _ k=>absurd k.1 (uk _),λg e n z=>by cases z⟩
    grind
  show Sat I p (bR s.k.A [i6 (s.l.ag i).a,h]::(eR d::((pM s).tail.tail++C)));rw[sat_iff]at Q3 ⊢;have M:∀j:Ix,(bR s.k.A [i6 (s.l.ag i).a,h]).has j->j=(0,0)\/j=(0,1):=λj k=>by
   let⟨W,a⟩:=k;grind
  refine⟨λr l=>?_,iG.2 ⟨λr l _ j J k N e=>?_,Q3.2⟩⟩
  .rcases ak.1 l with rfl|l
   .refine⟨λj k=>?_,λj k=>?_,λ_ j J k N e=>?_,λg e n z=>by cases z⟩
    .rcases M j k with rfl|rfl
     .exact b0
     .exact b1
    .grind
    grind
   grind
  .have Hg:∃L,L∈(pM s).tail++C/\L.has J/\L.ad J=r.ad J:=by
    rcases ak.1 l with rfl|l
    .grind
    .exact⟨r,by
      rcases dJ.1 l with z|z
      .exact gU _ (List.mem_of_mem_tail z)
      grind,N,rfl⟩
   let⟨L,b,a,c⟩:=Hg;refine B L b (.inl rfl) j J ?_ a χ;rcases M j k with rfl|rfl
   .exact⟨aD,(by decide:0<2)⟩
   .exact⟨aD,(by decide:1<2)⟩
 rcases KI with ⟨y,⟨U,e2⟩|⟨E',off,cap,a,U,e2,a,e4,a,e6⟩⟩
 .exact K R p h {s.eb with c:=0} P Y (q _ (.inr rfl)) ⟨m.jr,⟨y,.inl ⟨U,e2,rfl⟩⟩,λz=>(by cases z),m.fb,m.rm,m.cx,m.bg⟩ (Q.bD hq _ _).1
 .have hE':E'=s.eb.E:=v _ (Z _ (by rw[U,bS];rfl));subst hE';let⟨_,c1,a,c3⟩:=uw (q s.eb (.inl rfl)) (i:=1) rfl E;rw[e4]at c1;cases c1;have a:0<s.eb.n:=by
   rcases t.2 with ⟨_,_,z⟩|⟨_,_,_,_,_,_,z,_⟩
   .omega
   .exact z
  refine K R p h s.eb P Y (q _ (.inl rfl)) ⟨m.jr,⟨y,.inr ⟨off,cap,U,E,e2,ω,a,λj u a=>?_⟩⟩,m.eo,m.fb,m.rm,m.cx,m.bg⟩ (Q.bD hq _ _).1;have b:=e6 j u a;grind
section
variable{σ σ':Gd}{s:PS}
def BI{wi:Nat}(l:Co R σ s B)(S:s.q=i::D)(J:lX s.l i t wi\/(s.l.ag i).t=t/\(s.l.ag i).c=0)(v:t<s.l.tl){eb:mW}{L2:LS}(TY:L2.ag=(s.l.pop i).ag)(rZ:L2.al=s.l.al)(M:L2.wl=s.l.wl)(O:L2.tl=s.l.tl)(N:∀k,(L2.wt k).l=(s.l.wt k).l/\(L2.wt k).b=(s.l.wt k).b/\(L2.wt k).t=(s.l.wt k).t/\(L2.wt k).x=(s.l.wt k).x/\(L2.wt k).z=(s.l.wt k).z)(Z:∀k,(L2.wt k).e=(s.l.wt k).e\/∃d,σ.tk t=jm d/\k=d.wn)(v:∀k,(s.l.wt k).e=true->(L2.wt k).e=true)(v:∀d,σ.tk t=jm d->(L2.wt d.wn).e=true)(v:∀j,(L2.tk j).a=(s.l.tk j).a/\(L2.tk j).q=(s.l.tk j).q/\(L2.tk j).c=(s.l.tk j).c/\(L2.tk j).f=(s.l.tk j).f/\(L2.tk j).p=(s.l.tk j).p)(X:L2.ou=s.l.ou)(I:σ'.tk=cu σ.tk t ld)(L:σ'.dn=σ.dn)(H:σ'.cc=σ.cc)(G:∀p∈σ.st,p∈σ'.st)(Q:∀p∈σ'.st,p.1.off≠5/\p.1.off≠6/\p.1.block<B')(T:σ.ng<=σ'.ng)(hB:B<=B')(hI:∀j d,j≠t->σ.tk j=jm d->σ'.Inb d.κ=σ.Inb d.κ)(B:∀g e,σ'.Inb g=some e->g≠0->σ.Inb g=some e/\∀d,σ.tk t=jm d->d.κ≠g)(p:∀g x,(σ'.Inb g).isSome->σ'.St g x->wD σ'.st x)(x:σ'.nb<=σ'.sd R):Co R σ' {s.bD i D en eb with l:=L2} B':=by
 have Y:Mo s {s.bD i D en eb with l:=L2}:=⟨rfl,ξ,λ_ _=>⟨rfl,rfl,rfl⟩,λj _=>⟨(v j).2.2.1,(v j).2.2.2.1,(v j).2.2.2.2⟩,ξ,λ_ _=>⟨rfl,rfl⟩,λk _=>⟨(N k).2.2.1,(N k).1⟩⟩;have k:∀(c:Int) w,th L2 c w↔th s.l c w:=λc w=>by unfold th;simp_all
 have r:∀j,j≠t->σ'.tk j=σ.tk j:=λj m=>by rw[I];exact gk _ _ m
 have c:σ'.tk t=ld:=by rw[I];exact bz ..
 have k:i∈s.q:=ξ
 have C:∀j∈D,j∈s.q:=λj m=>ξ
 have U:=l.nd;rw[S]at U;let⟨d1,d2⟩:=List.nodup_cons.1 U;have c:∀j,(L2.ag j).a=(s.l.ag j).a/\(L2.ag j).t=(s.l.ag j).t/\(L2.ag j).w=(s.l.ag j).w/\(L2.ag j).c=(s.l.ag j).c:=λj=>by
  rw[TY];have:=fW s i j D en eb;simp_all
 have no:∀j∈D,∀w:Nat,(lX s.l j t w\/(s.l.ag j).t=t/\(s.l.ag j).c=0)->False:=λj m w h=>by
  have:=l.DK j (C j m) i k t w wi h J;simp_all
 have up:∀j u w:Nat,(lX L2 j u w\/(L2.ag j).t=u/\(L2.ag j).c=0)->(lX s.l j u w\/(s.l.ag j).t=u/\(s.l.ag j).c=0):=λj u w h=>by
  unfold lX at h ⊢;grind
 have keep:∀j d,j≠t->σ.tk j=jm d->(L2.wt d.wn).e=(s.l.wt d.wn).e:=λj d f F=>by
  rcases Z d.wn with z|⟨k,h,i⟩
  .exact z
  .have I:=(l.pk j d F).wt;have I:=(l.pk t k h).wt;grind
 refine{l.mono hB with Ku:=ga l.Ku T,st:=Q,sA:=λy k=>G y (l.sA y k),sT:=by rw[H];exact λq S=>G _ (l.sT q S),cs:=λj m=>by rw[H];exact l.cs j ξ,ci:=by rw[H];exact l.ci,cb:=by rw[H];exact(l.mono hB).cb,tl:=by show L2.tl<=_;rw[O];exact l.tl,fr:=λj m=>by rw[r j χ];exact l.fr j ξ,L9:=p,yN:=λg e F E=>?_,pk:=λj d A=>?_,jz:=λj m=>?_,ql:=λj m=>?_,nd:=d2,all:=λo k=>⟨λV=>?_,λd V=>?_⟩,DK:=λa ha b hb u wa wb F E=>?_,wa:=λw k k he=>?_,nb:=x,ed:=λj m he=>?_,RE:=by rw[L];exact l.RE,dW:=by rw[L];exact l.dW}
 .let⟨h,i⟩:=B g e F E;let⟨j,d,A,i⟩:=l.yN g e h E;grind
 .have f:j≠t:=λz=>ξ
  rw[r j f]at A;have P:=l.pk j d A;exact⟨by show j<L2.tl;rw[O];exact P.tn,by rw[hI j d f A];exact P.yN,P.BW,ga P.Lu T,G _ P.bg,G _ P.x,by show _<L2.wl;rw[M];exact P.wn,P.wb,by show(L2.wt _).l=_;rw[(N _).1];exact P.wl,by show _->(L2.wt _).b=_;rw[(N _).2.1];exact P.wk,by show(L2.wt _).t=_;rw[(N _).2.2.1];exact P.wt,by show(L2.wt _).e=_;rw[keep j d f A];exact P.we,by show(L2.tk j).a=_;rw[(v j).1];exact P.a,by show(L2.tk j).q=_;rw[(v j).2.1];exact P.tq,P.eH,P.fl,P.mo.trans Y⟩
 .have K:j∈D:=m;let⟨o,F,E,h3⟩:=l.jz j (C j K);refine⟨o,ξ,(c j).2.1.trans E,?_⟩;show((L2.ag j).c=0/\_)\/∃w:Nat,(L2.ag j).w=w/\w<L2.wl/\(((L2.ag j).c=1/\((L2.wt w).x=true\/(L2.wt w).e=true))\/(th L2 (L2.ag j).c w/\∃q:yH,_/\q.wn=w));rw[(c j).2.2.2,(c j).2.2.1,M];rcases h3 with ⟨W,c⟩|⟨w,W,c,⟨y3,y4⟩|⟨y3,d,y4,y5⟩⟩
  .have f:o≠t:=λz=>no j K 0 (.inr ⟨by rw[E,z],W⟩);simp_all
  .grind
  .have f:o≠t:=λz=>by
    subst z;refine no j K w (.inl ⟨E,W,?_,y3⟩);rw[<-y5];exact(l.pk o d y4).we
   grind
 .show j<L2.al;rw[rZ];exact l.ql j (C j m)
 .have f:o≠t:=λz=>ξ
  rw[r o f]at V;let⟨j,m,F,E⟩:=(l.all o ξ).1 V;rw[S]at m;rcases ak.1 m with rfl|m
  .exfalso;rcases J with z|z
   .have:=z.1;omega
   omega
  grind
 .have f:o≠t:=λz=>ξ
  rw[r o f]at V;let⟨j,m,F⟩:=(l.all o ξ).2 d V;rw[S]at m;rcases ak.1 m with rfl|m
  .exfalso;have:=F.1;rcases J with z|z
   .have:=z.1;omega
   omega
  .refine⟨j,m,?_⟩;show lX L2 j o d.wn;unfold lX at F ⊢;grind
 .exact l.DK a (C a ha) b (C b hb) u wa wb (up a u wa F) (up b u wb E)
 .have a:(s.l.wt w).x=false:=ξ
  have b:(s.l.wt w).e=false:=by
   grind
  let⟨o,d,E,h3⟩:=l.wa w ξ a b;grind
 .have f:j≠t:=λz=>ξ
  rw[r j f]at he;show fu (σ'.dn++R.S) (s.oh j) (L2.ou j).b.ch;rw[L,X];exact l.ed j m he
def N8(f:Co R σ s B)(r:s.q=i::D)(y:∀u w:Nat,¬(lX s.l i u w\/(s.l.ag i).t=u/\(s.l.ag i).c=0))(C:B<=B'){g:mW}:Co R σ (s.bD i D en g) B':=by
 have e:∀j∈D,j∈s.q:=λj d=>ξ
 have k:=f.nd;rw[r]at k;have n:=f.mono C;have c:∀j,((s.bD i D en g).l.ag j).t=(s.l.ag j).t/\((s.bD i D en g).l.ag j).w=(s.l.ag j).w/\((s.bD i D en g).l.ag j).c=(s.l.ag j).c:=λj=>by
  have:=fW s i j D en g;omega
 have o:∀j u w:Nat,lX (s.bD i D en g).l j u w↔lX s.l j u w:=λj u w=>by
  unfold lX;rw[(c j).1,(c j).2.1,(c j).2.2];rfl
 refine{n with pk:=λj q h=>{n.pk j q h with mo:=(n.pk j q h).mo.trans ⟨rfl,az _,λ_ _=>⟨rfl,rfl,rfl⟩,λ_ _=>⟨rfl,rfl,rfl⟩,az _,λ_ _=>⟨rfl,rfl⟩,λ_ _=>⟨rfl,rfl⟩⟩},jz:=λj d=>?_,ql:=λj d=>f.ql j (e j d),nd:=(List.nodup_cons.1 k).2,all:=λt p=>⟨λh=>?_,λq h=>?_⟩,DK:=λa A b z u x v l m=>?_,wa:=f.wa,ed:=f.ed}
 .rw[(c j).1,(c j).2.1,(c j).2.2];exact f.jz j (e j d)
 .let⟨j,d,l,m⟩:=(f.all t p).1 h;rw[r]at d;rcases ak.1 d with rfl|d
  .exact(y t 0 (.inr ⟨l,m⟩)).elim
  grind
 .let⟨j,d,l⟩:=(f.all t p).2 q h;grind
 .rw[o,(c a).1,(c a).2.2]at l;rw[o,(c b).1,(c b).2.2]at m;exact f.DK a (e a A) b (e b z) u x v l m
def Gd.Ax(σ:Gd)(R:RN)(t κ:Nat):Gd:={σ with Inb:=cu (cu σ.Inb 0 (some (lz R))) κ none,St:=cu σ.St 0 (wD (qd R.k.A R.k.bM R.k.bJ)),tk:=cu σ.tk t ld}
def EE(a:Nat)(c:aC)(cs:cO):(lB a c cs).has a:=Seat.one_has.2 rfl
def Co.Up(C:Co R σ s B)(d:∀a b:Nat,a<s.l.tl->b<s.l.tl->s.T a=s.T b->a=b){q a:yH}(b:σ.tk i=jm q)(h:σ.tk j=jm a)(e:a.κ=q.κ):j=i:=by
 have c:=C.pk i q b;have b:=C.pk j a h;have f:=b.yN;rw[e,c.yN]at f;have g:=EE (s.aS j) a.c a.cs;rw[<-Option.some.inj f]at g;exact d j i b.tn c.tn (C.ci _ (C.cs j b.tn) _ (C.cs i c.tn) (l7 g))
def GL(H:tZ R)(l:Co R σ s B)(F:s.q=i::D)(w:∀a b:Nat,a<s.l.tl->b<s.l.tl->s.T a=s.T b->a=b){q:yH}(a:lX s.l i t q.wn)(f:σ.tk t=jm q)(x:∀j,σ.tk j≠ld)(b:σ.L=σ.pk R)(G:B<=B'){eb:mW}:ud R (σ.Ax R t q.κ) {s.bD i D en eb with l:=(s.l.pop i).bV t q.wn} B' t q.κ q.bg:=by
 have m:∀k,((s.l.pop i).bV t q.wn).wt k=if k=q.wn then{s.l.wt k with e:=true} else s.l.wt k:=λk=>by
  show upd s.l.wt q.wn _ k=_;unfold upd;by_cases e:k=q.wn
  .rw[sJ e,sJ e,e];rfl
  simp_all
 have P:=l.pk t q f;have r:=P.tn;have tR:t<R.n:=ga r l.tl;have v:=P.BW;have f0:(σ.Ax R t q.κ).sd R=σ.sd R:=by
  have d:=sumTo_upd σ.tk ld A6 tR;rw[f]at d;exact Nat.add_right_cancel d
 have f1:(σ.Ax R t q.κ).pk R+1=σ.pk R:=by
  have d:=sumTo_upd σ.tk ld G8 tR;rw[f]at d;exact d
 refine⟨BI l F (.inl a) r rfl rfl rfl rfl (λk=>χ) (λk=>by rw[m k];by_cases e:k=q.wn;exact .inr ⟨q,f,e⟩;exact .inl (by rw[af e])) (λk a=>by rw[m k];split;rfl;exact a) (λu d=>by rw[f]at d;cases d;rw[m,sJ rfl]) (λj=>?_) rfl rfl rfl rfl (λp f=>f) (λp f=>?_) (az _) G (λj u o d=>?_) (λg e d z=>?_) (λg y d z=>?_) (by rw[f0];exact l.nb),r,bz ..,λj o=>?_,?_,v,P.Lu,bz ..,P.bg,?_⟩
 .simp only[LS.bV,LS.pop,upd];grind
 .have:=l.st p f;omega
 .show cu (cu σ.Inb 0 _) q.κ none u.κ=_;rw[gk _ _ (λe=>o (l.Up w f d e)),gk _ _ (by have:=(l.pk j u d).BW;omega)]
 .have c:cu (cu σ.Inb 0 (some (lz R))) q.κ none g=some e:=d;by_cases C:g=q.κ
  .rw[C,bz]at c;cases c
  .rw[gk _ _ C,gk _ _ z]at c;grind
 .have c:(cu (cu σ.Inb 0 (some (lz R))) q.κ none g).isSome:=d;have h:cu σ.St 0 (wD (qd R.k.A R.k.bM R.k.bJ)) g y:=z;show wD σ.st y;by_cases A:g=0
  .subst A;rw[bz]at h;obtain⟨p,f,rfl⟩:=h;exact⟨p,l.sA p f,rfl⟩
  .rw[gk _ _ A]at h;by_cases E:g=q.κ
   .subst E;rw[bz]at c;cases c
   .rw[gk _ _ E,gk _ _ A]at c;exact l.L9 g y c h
 .show cu σ.tk t ld j≠ld;rw[gk _ _ o];exact x j
 .show cu (cu σ.Inb 0 _) q.κ none 0=_;rw[gk _ _ ω,bz]
 .show σ.L=_;omega
def uU(a:t<R.n)(b:σ'.tk=cu σ.tk t ld)(b:σ'.dn=σ.dn)(s:PS):(dD R σ s).Perm (own (σ.tk t)++dD R σ' s):=by
 have h:=(uz (R:=R) (tk:=σ.tk) a (b:=false)).append_right (σ.dn++R.S);rw[dU]at h;refine List.Perm.trans (eN (gS s) ?_) (fA ..);unfold nD;simp_all
end
section
variable{σ σ':Gd}{s:PS}
def Sat.Yd{u:ay}(h:Sat I w (oR x o [v] true::M))(g:Sat I w' M)(i:w'.cell? ⟨x,o,none⟩=some u)(k:w'.frozen? ⟨x,o,none⟩=false):Sat I w' (oR x o [u] true::M):=by
 have f:=sat_iff.1 h;have H:=f.1 _ (bI ..);have e:∀j:Ix,(oR x o [u] true).has j->j=(0,0):=λj a=>by
  let⟨_,h⟩:=a;grind
 refine sat_iff.2 ⟨λr b=>?_,iG.2 ⟨λr b h j d a c=>(iG.1 f.2).1 r b (.inl rfl) j d a c,(sat_iff.1 g).2⟩⟩;rcases ak.1 b with rfl|b
 .exact⟨λj a=>by rw[e j a];exact i,λj a=>by rw[e j a];exact⟨(H.ok (0,0) ⟨aD,aD⟩).1,λ_=>⟨((H.ok (0,0) ⟨aD,aD⟩).2 rfl).1,k⟩⟩,λ_ j d a c _=>χ,λ_ _ _ z=>by cases z⟩
 .exact(sat_iff.1 g).1 r b
abbrev PS.oZ(s:PS)(i:Nat)(D:aN)(en:ay)(eb:mW)(t n:Nat):PS:={s.bD i D en eb with l:=(s.l.pop i).bV t n}
def uZ(L:LS)(t n k:Nat):(L.bV t n).wt k=if k=n then{L.wt k with e:=true} else L.wt k:=by
 show upd L.wt n _ k=_;unfold upd;simp_all
def pR(L:LS)(t n k:Nat):((L.bV t n).wt k).t=(L.wt k).t/\((L.bV t n).wt k).l=(L.wt k).l/\((L.bV t n).wt k).x=(L.wt k).x/\((L.bV t n).wt k).z=(L.wt k).z/\((L.bV t n).wt k).b=(L.wt k).b:=by
 rw[uZ];grind
def sI(L:LS)(t n j:Nat):((L.bV t n).tk j).c=(L.tk j).c/\((L.bV t n).tk j).f=(L.tk j).f/\((L.bV t n).tk j).p=(L.tk j).p/\((L.bV t n).tk j).o=(L.tk j).o/\((L.bV t n).tk j).x=(L.tk j).x/\((L.bV t n).tk j).e=(L.tk j).e:=by
 simp only[LS.bV,upd];grind
def TI.oZ{en:ay}{a:mW}{n:Nat}(h:TI s):TI (s.oZ i D en a t n):=by
 have f:=pR (s.l.pop i) t n;have k:=sI (s.l.pop i) t n;refine⟨h.nc,λw g=>?_,λj e b U r=>?_,λj e=>?_,λj d a=>?_,λj e=>⟨(h.ch j e).1,λc r=>?_⟩,λj e=>?_,λj e q=>?_,λc d a j w m l=>h.al c d a j w ((k c).2.1.symm.trans m) ((f w).1.symm.trans l)⟩
 .let⟨u,d,a⟩:=h.wt w g;exact⟨u,d,(f w).1.trans a⟩
 .let⟨d,⟨l,a,g⟩,u⟩:=h.cm j e b U r;refine⟨d,⟨l,(f j).2.1.trans a,g⟩,λq b=>?_⟩;rw[(f j).2.2.2.2];exact u ((f j).2.2.1.symm.trans q) ((f j).2.2.2.1.symm.trans b)
 .let⟨c,d,a,g⟩:=h.cl j e;exact⟨c,(k j).1.trans d,a,λz=>⟨(g z).1,(k j).2.2.1.trans (g z).2⟩⟩
 .let⟨w,y,A,x,l,U,p,o,m,b,v⟩:=h.wk j d a;exact⟨w,y,A,x,l,U,(k j).2.1.trans p,o,(f w).2.1.trans m,(k j).2.2.1.trans b,v⟩
 .let⟨d,a,g,w,u,x,v⟩:=(h.ch j e).2 c r;exact⟨d,a,g,w,(k c).2.1.trans u,x,(f w).1.trans v⟩
 .refine(h.can j e).imp (λz=>(k j).2.2.2.1.trans z) ?_;rintro ⟨w,l,p,o,m,b⟩;exact⟨w,l,(k j).2.2.2.1.trans p,o,(f w).2.1.trans m,b⟩
 .show(((s.l.pop i).bV t n).wt j).z=2\/(((s.l.pop i).bV t n).wt j).z=3;rw[(f j).2.2.2.1];exact h.zz j e ((f j).2.2.1.symm.trans q)
def J2{a:mW}(j:Nat):j7 (s.oZ i D en a t n) j=j7 s j:=by
 have k:=sI (s.l.pop i) t n j;unfold j7;show[dO (s.T j) (j9 s.wb (((s.l.pop i).bV t n).tk j).o) _ (((s.l.pop i).bV t n).tk j).x (((s.l.pop i).bV t n).tk j).e,_,wF (s.T j) s.k.A j (((s.l.pop i).bV t n).tk j).c (s.aS j)]=_;rw[k.1,k.2.2.2.1,k.2.2.2.2.1,k.2.2.2.2.2];rfl
def Bf(a:t<s.l.tl):x6 s t∈gS s:=gF _ (gF _ (aP _ (gU _ (mL.2 ⟨t,aZ.2 a,by simp[j7]⟩))))
def Ga(H:tZ R){p:aj}{a:aV}{c:ay}{f:mW}{z:Int}(o:Co R σ s w.heap.size)(O:∀j,σ.tk j≠ld)(hL:σ.L=σ.pk R)(F:∀j q,σ.tk j=jm q->lV R Post (m+1) j q)(hq:s.q=i::D)(M:∀a b:Nat,a<s.l.tl->b<s.l.tl->s.T a=s.T b->a=b){q:yH}(Q:lX s.l i t q.wn)(N:σ.tk t=jm q)(b:w.heap.size<=p.heap.size)(hz:z≠1->(s.l.wt q.wn).x=true/\(s.l.wt q.wn).z=z)(X:Sat (jO R σ) p (pM (s.oZ i D c f t q.wn)++(q.R++dD R (σ.Ax R t q.κ) (s.oZ i D c f t q.wn))))(Z:PV (jO R σ) (s.oZ i D c f t q.wn) (bA (s.oZ i D c f t q.wn)))(Y:QI (s.oZ i D c f t q.wn))(V:TI (s.oZ i D c f t q.wn))(G:Hs R (s.oZ i D c f t q.wn))(T:u0 R.k.V R.Lf m t q.wn z ((s.l.pop i).bV t q.wn))(hG:BU R.k.A R.k.bM R.k.bJ (s.aS t) z (R.cR::R.lT) a):sN R Post σ 0 a p:=by
 have P:=o.pk t q N;have L:=P.tn;have b:=P.BW;have GG:=mO (cc:=cD R σ) H.hA H.iA o.n5;let⟨E,hsend,b⟩:=hG;refine fP.assume GG λXS XP=>?_;have C:∀c'∈cD R σ,∃u,p.heap[c']? =some (.chan 0 #[] false u u false):=XS.2.1.2;have v:s.aS t∈cD R σ:=aP _ (aP _ (gV.2 ⟨_,o.cs t L,rfl⟩));let⟨nh,S⟩:=b (KD R.wI R.k.A (cD R σ) σ.st) (wD (qd R.k.A R.k.bM R.k.bJ)) p.heap.size p (λw h y x=>h.2.1.1 y (o.sA y x)) (λy x=>⟨⟨y,x,rfl⟩,by have:=(o.st y (o.sA y x)).2.2;omega⟩)
 refine fP.ya (Q':=QD R.k.A) (j:=q.κ) (c:=s.aS t) (kk:=0) (s:=lB (s.aS t) q.c q.cs) (v:=.int .i64 z) (a₂:=a) GG (aT (o.PG H) δ)
  {kc:=λw k h=>YK (o.cb _ (o.cs t L)).1 v h
   jh:=ω
   jn:=P.Lu
   hj:=P.yN
   hk:=⟨_,rfl⟩
   run:=E
   send:=⟨.tuple #[],#[],λd m _=>hsend _,ψ⟩
   ch:=C _ v} (sh:=lz R) (Ak:=wD (qd R.k.A R.k.bM R.k.bJ)) (nh:=nh+1) (xz H.we _) (λl a=>⟨vm a,λz=>?_⟩) (.inl ⟨nh,p,rfl,S⟩) (λc' U=>?_) (λb s' c' K b h3 h4 h5=>?_) (λu b B hh b=>?_) (λu B b=>EU b (Kp.chan B) ψ)
 .obtain⟨y,x,rfl⟩:=a;simp only[qd,ak,bH,or_false]at x;rcases x with rfl|rfl<;>exact oO δ δ z
 .rcases l8 U with rfl|rfl
  .exact C _ (by simp[cD])
  .exact C _ (by simp[cD])
 .let⟨j,I,A,_,a⟩:=o.inj K h3 h5;have:=(o.cb _ (o.cs j (o.pk j I A).tn)).2.2;rcases l8 h4 with e|e
  .omega
  omega
 .have kc:Kp [] p (p.setChan (s.aS t) 0 #[] false (u+1) (u+1) false):=Kp.chan B;have C1:=GL (B':=(p.setChan (s.aS t) 0 #[] false (u+1) (u+1) false).heap.size) (en:=c) (eb:=f) H o hq M Q N O hL (by rw[oN];omega);have a:(q.κ==0)=false:=θ
  have F1:=C1.co.Jh (Post:=Post) H q.κ;rw[a]at F1;refine hh z (λg=>sN R Post (σ.Ax R t q.κ) q.κ g _) (pE F1 _) ?_;have W:=(X.PZ kc).Rz (Z:=[x6 (s.oZ i D c f t q.wn) t]) λr hr=>by
   simp only[ak,bH,or_false]at hr;subst hr;exact⟨gF _ (gF _ (gU _ (Bf (s:=s.oZ i D c f t q.wn) L))),rfl⟩
  refine(F t q N).2 (σ.Ax R t q.κ) (s.oZ i D c f t q.wn) _ C1 (W.perm (eY (l₁:=pM (s.oZ i D c f t q.wn))).symm) Z Y V G z T ?_ ?_ ?_ ⟨?_,λK=>?_⟩ ?_ (λj I A=>?_)
  .exact(pR (s.l.pop i) t q.wn q.wn).2.1.trans P.wl
  .intro e;exact(pR (s.l.pop i) t q.wn q.wn).2.2.2.2.trans (P.wk e)
  .show(upd s.l.tk t _ t).a=_;unfold upd;rw[sJ rfl];exact P.a
  .exact P.mo.trans ⟨rfl,az _,λ_ _=>⟨rfl,rfl,rfl⟩,λj _=>⟨(sI (s.l.pop i) t q.wn j).1,(sI (s.l.pop i) t q.wn j).2.1,(sI (s.l.pop i) t q.wn j).2.2.1⟩,az _,λ_ _=>⟨rfl,rfl⟩,λk _=>⟨(pR (s.l.pop i) t q.wn k).1,(pR (s.l.pop i) t q.wn k).2.1⟩⟩
  .have:=pR (s.l.pop i) t q.wn q.wn;exact⟨this.2.2.1.trans (hz K).1,this.2.2.2.1.trans (hz K).2⟩
  .show(upd s.l.tk t _ t).q=_;unfold upd;rw[sJ rfl];exact P.tq
  .have J:cu σ.tk t ld j=jm I:=A;by_cases e:j=t
   .rw[e,bz]at J;cases J
   .rw[gk _ _ e]at J;exact(F j I J).1
def HG{L:LS}{k:Nat}{q:aN}(h:yV q L.wl L.wt k):yV q (L.bV t n).wl (L.bV t n).wt k:=by
 have e:∀w,((L.bV t n).wt w).l=(L.wt w).l/\((L.bV t n).wt w).x=(L.wt w).x/\(((L.bV t n).wt w).e=false->(L.wt w).e=false):=λw=>by
  simp only[LS.bV,upd];grind
 exact⟨h.pN,λw a=>⟨(h.mem w a).1,by rw[(e w).1];exact(h.mem w a).2⟩,λw b a a a=>h.all w b ξ ξ ((e w).2.2 a)⟩
def Jv(f:∃M w I,Sat I w (pM s++(M++dD R σ s)))(a b:Nat)(d:a<s.l.tl)(c:b<s.l.tl)(e:s.T a=s.T b):a=b:=by
 let⟨M,w,I,h⟩:=f;exact h.J5 (λr a=>gF _ (gF _ (gU _ a))) ⟨(pM s++M)++nD R σ,by
  have:=fA (pM s++M) (gS s) (nD R σ);simp_all⟩ d c e
def Eg(A a Q X Z:aW)(r b:aH):(A++(a++((r::b::X)++Z))).Perm (r::b::(A++(a++(X++Z)))):=by
 have h:=fA (A++a) [r,b] (X++Z);simp_all
theorem LU(H:tZ R)(IH:∀m',m'<m+1->p7 R Post m')(G:Co R σ s w.heap.size)(OJ:∀j,σ.tk j≠ld)(Ra:σ.Inb 0=none)(hL:σ.L=σ.pk R)(hS:Sat (jO R σ) w (pM s++dD R σ s))(hP:PV (jO R σ) s (bA s))(hQ:QI s)(Z3:TI s)(Q9:Hs R s)(KH:qo R.k.A (R.cR::R.lT) g)(Y:∀j q,σ.tk j=jm q->lV R Post (m+1) j q)(hq:s.q=i::D){q:yH}(A:lX s.l i t q.wn)(hp:σ.tk t=jm q)(N:u0 R.k.V R.Lf m t q.wn (s.l.ag i).c ((s.l.pop i).bV t q.wn)):sN R Post σ 0 g w:=by
 have P:=G.pk t q hp;have tn:=P.tn;have F:aB prog true (DX (jO R σ)) (sN R Post σ 0):=G.Jh (Post:=Post) H 0;have B:s.k.A=R.k.A:=by rw[G.hk]
 have hi:i∈s.q:=ξ
 have O:=G.Gi H hP.cx;have X:=Jv (R:=R) (σ:=σ) (s:=s) ⟨[],w,_,hS⟩;have m:wR s q.wn=oR q.x 1 [i6 (nJ (s.l.wt q.wn))] true::oR q.x 0 [ptr (s.T t)] false::lf s q.wn:=by
  unfold wR;rw[P.wb,P.wt,mY]
 have Z:=og s P.wn;rw[m]at Z;have J:∀b c,Hs R (s.oZ i D b c t q.wn):=λb c k m w=>HG (L:=s.l.pop i) (Q9 k m w);have XO:∀b c,QI (s.bD i D b c)->QI (s.oZ i D b c t q.wn):=λb c Q=>⟨Q.lt,Q.all,Q.pN,Q.ws,Q.cv⟩
 have k:∀b c,xS (s.oZ i D b c t q.wn)=xS s:=λb c=>by
  unfold xS tS;show oR s.k.A 2 [i6 s.l.tl] true::((List.range s.l.tl).flatMap (j7 (s.oZ i D b c t q.wn))++s.cx)=_;rw[show j7 (s.oZ i D b c t q.wn)=j7 s from funext λj=>J2 j]
 have m:∀b c,wX (s.oZ i D b c t q.wn) q.wn=wX s q.wn:=λb c=>by
  unfold wX;rw[k];show gA s++(((List.range s.l.wl).flatMap λj=>if j=q.wn then[]else wR (s.oZ i D b c t q.wn) j)++xS s)=_;congr 3;funext j;by_cases e:j=q.wn
  .simp_all
  .rw[af e,af e];unfold wR;show oR (s.wb j) 1 [i6 (nJ (((s.l.pop i).bV t q.wn).wt j))] true::oR (s.wb j) 0 [ptr (s.T (((s.l.pop i).bV t q.wn).wt j).t.toNat)] false::lf s j=_;rw[uZ,af e];rfl
 have k:∀b c,wR (s.oZ i D b c t q.wn) q.wn=oR q.x 1 [i6 (nJ {s.l.wt q.wn with e:=true})] true::oR q.x 0 [ptr (s.T t)] false::lf s q.wn:=λb c=>by
  unfold wR;show oR (s.wb q.wn) 1 [i6 (nJ (((s.l.pop i).bV t q.wn).wt q.wn))] true::oR (s.wb q.wn) 0 [ptr (s.T (((s.l.pop i).bV t q.wn).wt q.wn).t.toNat)] false::lf s q.wn=_;rw[uZ,sJ rfl,P.wb];show _::oR q.x 0 [ptr (s.T (s.l.wt q.wn).t.toNat)] false::_=_;rw[P.wt,mY];rfl
 have k:∀b c,(gS (s.oZ i D b c t q.wn)).Perm (oR q.x 1 [i6 (nJ {s.l.wt q.wn with e:=true})] true::oR q.x 0 [ptr (s.T t)] false::(lf s q.wn++wX s q.wn)):=λb c=>by
  have:=og (s.oZ i D b c t q.wn) (i:=q.wn) P.wn;grind
 have V:∀(b:ay)(c:mW),(pM (s.bD i D b c)++dD R σ s).Perm (oR q.x 1 [i6 (nJ (s.l.wt q.wn))] true::oR q.x 0 [ptr (s.T t)] false::(pM (s.bD i D b c)++(q.R++((lf s q.wn++wX s q.wn)++nD R (σ.Ax R t q.κ))))):=λb c=>by
  have p:=uU (σ':=σ.Ax R t q.κ) (ga tn G.tl) rfl rfl s;rw[hp]at p;refine(p.append_left _).trans ?_;have h2:=Z.append_right (nD R (σ.Ax R t q.κ));refine List.Perm.trans (eN _ (eN _ h2)) ?_;exact Eg (pM (s.bD i D b c)) q.R [] _ _ _ _
 have pB:∀(b:ay)(c:mW),(oR q.x 1 [i6 (nJ {s.l.wt q.wn with e:=true})] true::oR q.x 0 [ptr (s.T t)] false::(pM (s.bD i D b c)++(q.R++((lf s q.wn++wX s q.wn)++nD R (σ.Ax R t q.κ))))).Perm (pM (s.oZ i D b c t q.wn)++(q.R++dD R (σ.Ax R t q.κ) (s.oZ i D b c t q.wn))):=λb c=>by
  show List.Perm _ (pM (s.bD i D b c)++_);have h2:=((k b c).append_right (nD R (σ.Ax R t q.κ))).symm;refine List.Perm.trans ?_ (eN _ (eN _ h2));exact(Eg (pM (s.bD i D b c)) q.R [] _ _ _ _).symm
 have f:∀{o:Nat}{v:ay}{wr:Bool},(oR q.x o [v] wr).has (0,0):=⟨aD,aD⟩;have hTm:∀b c,x6 s t∈pM (s.bD i D b c)++dD R σ s:=λb c=>gF _ (gU _ (Bf tn));rcases A.2.2.2 with ⟨k,L⟩|⟨k,L,hzc⟩
 .have S:nJ (s.l.wt q.wn)=0:=by unfold nJ;rw[L,P.we];rfl
  have I:nJ {s.l.wt q.wn with e:=true}=1:=by unfold nJ;simp[L]
  have he:(fF s i).2=.func (.func 143) #[ptr q.x] #[]:=by
   unfold fF;simp only[k,A.2.1,mY,P.wb];rfl
  rw[k]at N;refine AR F (λa wr h=>G.hB H a wr h) hS hP O hQ hq (by rw[B];exact KH) he func143 φ φ λfr w1 b c E k1 l d U=>?_;rw[B]at E;have k:=hTm b c;have p:=l.perm (V b c);have C:=(V b c).mem_iff.1 k;rw[S]at p C;have u:=p.mem (bI ..);have y:=p.mem (aP _ (bI ..));have K:=p.mem C;have k:=u.ok (0,0) f;have w:w1.cell? ⟨s.T t,0,none⟩=some (ptr R.k.A):=by rw[<-B];exact K.val (0,0) ⟨aD,(by decide:0<4)⟩
  have v:=K.val (0,3) ⟨aD,(by decide:3<4)⟩;have m:q.x≠s.T t:=λe=>p.dj (bI ..) C rfl rfl f (j':=(0,1)) ⟨aD,(by decide:1<4)⟩ χ;refine LR F R.k.A (s.T t) q.x R.k.bM R.k.bJ (s.aS t) fr (R.cR::R.lT) w1 E (y.val (0,0) f) (u.val (0,0) f) (k.2 rfl).2 w v (y.ok (0,0) f).1 k.1 (k.2 rfl).1 (K.ok (0,0) ⟨aD,(by decide:0<4)⟩).1 (K.ok (0,3) ⟨aD,(by decide:3<4)⟩).1 m (λa k hG k2 k m=>?_);have W:=k1.size;have v:=k2.size;refine Ga H G OJ hL Y hq X A hp ω (λz=>absurd rfl z) ?_ ⟨d.jr,d.en,d.eo,d.fb,d.rm,d.cx,d.bg⟩ (XO b c U) Z3.oZ (J b c) N hG;refine Sat.perm ?_ (pB b c);rw[I];refine p.Yd ?_ k m;have h2:=(iG.1 (sat_iff.1 p).2).1;have hr:∀r∈pM (s.bD i D b c)++dD R σ s,∀g e n,r.row=some (g,e,n)->q.x≠g:=by
   let⟨k,M⟩:=lP ((V b c).mem_iff.2 (aP _ (bI ..)));exact l9 (b:=q.x) l d O M (λz=>by subst z;have h9:=cT (λo=>o.map aH.wr) M;cases h9) (λz=>by subst z;have h9:=cT (λo=>o.map aH.wr) M;cases h9) (j0:=(0,0)) f rfl
  refine p.tail.kp k2 (λr k j m z=>?_) (λr k g e n hg x L=>?_)
  .simp only[ak,bH,or_false]at z;exact h2 r k (.inl rfl) (0,0) j f m z.symm
  .simp only[ak,bH,or_false]at L;subst L;exact hr r ((V b c).mem_iff.2 χ) g e n hg
 .have S:nJ (s.l.wt q.wn)=(s.l.ag i).c:=by unfold nJ;grind
  have I:nJ {s.l.wt q.wn with e:=true}=(s.l.ag i).c:=by unfold nJ;grind
  let⟨k,j,_,e,T⟩:=(hQ.cv i hi).2 ω ω;rw[A.2.1,mY,P.wb]at T;have he:(fF s i).2=.func (.func 182) #[] #[ptr k,ptr j]:=by
   unfold fF;grind
  refine AR F (λa wr h=>G.hB H a wr h) hS hP O hQ hq (by rw[B];exact KH) he func182 φ φ λfr w1 b c E k1 l d U=>?_;rw[B]at E;have p:=l.perm (V b c);rw[S]at p;have u:=p.mem (bI ..);have y:=p.mem (aP _ (bI ..));have g:∀{r},Has s.cx r->Has (pM (s.bD i D b c)++dD R σ s) r:=λh=>(((((h.app (tS s)).cons).app (wS s)).app (gA s)).pre _).app _;have K:=l.mem (hTm b c);refine LZ F R.k.A (s.T t) q.x R.k.bM R.k.bJ (s.aS t) k j (s.l.ag i).c fr (R.cR::R.lT) w1 E (by have:=Has.sat l (g e);grind) (Has.sat l (g T)) (y.val (0,0) f) (u.val (0,0) f) (K.val (0,3) ⟨aD,(by decide:3<4)⟩) (Has.rd l (g e)) (Has.rd l (g T)) (y.ok (0,0) f).1 (u.ok (0,0) f).1 (K.ok (0,3) ⟨aD,(by decide:3<4)⟩).1 λa hG=>?_;have W:=k1.size;refine Ga H G OJ hL Y hq X A hp W (λ_=>⟨L,hzc⟩) ?_ ⟨d.jr,d.en,d.eo,d.fb,d.rm,d.cx,d.bg⟩ (XO b c U) Z3.oZ (J b c) N hG;refine Sat.perm ?_ (pB b c);grind
def MT(H:tZ R)(L:∀b,b<m+1->p7 R Post b)(k:Co R σ s w.heap.size)(p:∀j,σ.tk j≠ld)(v:σ.Inb 0=none)(J:σ.L=σ.pk R)(C:Sat (jO R σ) w (pM s++dD R σ s))(f:PV (jO R σ) s (bA s))(E:QI s)(b:TI s)(t:Hs R s)(d:qo R.k.A (R.cR::R.lT) g)(o:∀j q,σ.tk j=jm q->lV R Post (m+1) j q)(A:s.q=i::D)(x:(s.l.ag i).c=1)(r:(s.l.ag i).w=(n:Int))(B:n<s.l.wl)(l:(s.l.wt n).x=true\/(s.l.wt n).e=true)(I:Fin R.k.V R.Lf m none (s.l.pop i)):sN R Post σ 0 g w:=by
 have F:aB prog true (DX (jO R σ)) (sN R Post σ 0):=k.Jh (Post:=Post) H 0;have d:s.k.A=R.k.A:=by rw[k.hk]
 have G:nJ (s.l.wt n)≠0:=by
  unfold nJ;by_cases e:(s.l.wt n).x=true
  .rw[sJ e];rcases b.zz n B e with z|z<;>omega
  simp_all
 have e:(fF s i).2=.func (.func 143) #[ptr (s.wb n)] #[]:=by
  unfold fF;simp only[x,r,mY];rfl
 refine AR F (λa wr h=>k.hB H a wr h) C f (k.Gi H f.cx) E A (by simp_all;omega) e func143 φ φ λH x e f c E a r g=>?_;rw[d]at c;have C:oR (s.wb n) 1 [i6 (nJ (s.l.wt n))] true∈pM (s.bD i D e f)++dD R σ s:=gF _ (gU _ ((og s B).mem_iff.2 (gU _ (by simp[wR]))));have d:(oR (s.wb n) 1 [i6 (nJ (s.l.wt n))] true).has (0,0):=⟨aD,aD⟩;refine MS F R.k.A (s.wb n) (nJ (s.l.wt n)) H (R.cR::R.lT) x c G ((a.mem C).val (0,0) d) ((a.mem C).ok (0,0) d).1 λB d=>L m (gr _) σ (s.bD i D e f) x B (N8 k A (λu w h=>?_) E.size) p v J a r g {b with} t I (λj q h=>(o j q h).1) d;rcases h with ⟨_,a,b,K⟩|⟨_,a⟩
 .have:w=n:=ω
  subst this;rcases l with z|z
  .rcases K with ⟨_,y⟩|⟨y,_⟩
   .simp_all
   .omega
  simp_all
 .omega
end
section
variable{σ σ':Gd}{s:PS}
def Gd.begun(σ:Gd)(R:RN)(t X bg:Nat):Gd:={st:=(⟨X,0,none⟩,ptr R.k.A)::(⟨bg,0,none⟩,KX R.k.A)::σ.st,ng:=σ.ng+1,L:=σ.L+1,nb:=σ.nb+1,Inb:=cu σ.Inb 0 (some (lz R)),St:=cu σ.St 0 (wD ((⟨X,0,none⟩,ptr R.k.A)::qd R.k.A R.k.bM R.k.bJ)),tk:=cu σ.tk t ld,dn:=σ.dn,cc:=σ.cc}
def Co.o9(a:Co R σ s B)(b:t<s.l.tl)(c:σ.tk t=none):σ.nb+1<=sumTo R.n (λj=>A6 (cu σ.tk t ld j))/\sumTo R.n (λj=>A6 (cu σ.tk t ld j))<=R.n:=by
 have d:=sumTo_upd σ.tk ld A6 (ga b a.tl);rw[c]at d;have b:=a.nb;have c:=Bx (λj=>A6 (cu σ.tk t ld j)) s.l.tl (λj b=>by show A6 (cu σ.tk t ld j)=0;rw[gk _ _ ω,a.fr j b];rfl) (λj=>by unfold A6;grind) R.n;refine⟨?_,aT c a.tl⟩;have a:A6 none=0:=rfl;have a:A6 ld=1:=rfl;simp_all
def Co.Xf(a:Co R σ s B):σ.Inb σ.ng=none:=by
 cases e:σ.Inb σ.ng with
 |none=>rfl
 |some x=>
  have b:=a.Ku;let⟨j,q,b,c⟩:=a.yN _ x e ω;have:=(a.pk j q b).Lu;omega
def Dk(H:tZ R)(l:Co R σ s B)(z:s.q=i::D)(x:(s.l.ag i).t=(t:Int))(A:(s.l.ag i).c=0)(n:t<s.l.tl)(u:σ.tk t=none)(q:∀j,σ.tk j≠ld)(C:σ.L=σ.pk R)(E:B<=B')(w:X<B')(w:bg<B'){eb:mW}:ud R (σ.begun R t X bg) (s.bD i D en eb) B' t σ.ng bg:=by
 have w:=l.Ku;have f1:(σ.begun R t X bg).pk R=σ.pk R:=by
  have f:=sumTo_upd σ.tk ld G8 (ga n l.tl);rw[u]at f;exact f
 have b:∀p∈σ.st,p∈(σ.begun R t X bg).st:=λp a=>aP _ (aP _ a);refine⟨BI (wi:=0) (L2:=s.l.pop i) l z (.inr ⟨x,A⟩) n rfl rfl rfl rfl (λk=>⟨rfl,rfl,rfl,rfl,rfl⟩) (λk=>.inl rfl) (λk h=>h) (λo f=>ξ) (λj=>⟨rfl,rfl,rfl,rfl,rfl⟩) rfl rfl rfl rfl b (λp a=>?_) (Nat.le_succ _) E (λj o m f=>?_) (λg e f r=>?_) (λg y f r=>?_) ((l.o9 n u).1),n,bz ..,λj m=>?_,bz σ.Inb 0 _,w,gr _,?_,aP _ (bI ..),?_⟩
 .rcases ak.1 a with rfl|a
  .simp_all
  .rcases ak.1 a with rfl|a
   .simp_all
   .have:=l.st p a;omega
 .show cu σ.Inb 0 _ o.κ=_;rw[gk _ _ (by have:=(l.pk j o f).BW;omega)]
 .have d:cu σ.Inb 0 (some (lz R)) g=some e:=f;rw[gk _ _ r]at d;simp_all
 .have d:(cu σ.Inb 0 (some (lz R)) g).isSome:=f;have c:cu σ.St 0 (wD ((⟨X,0,none⟩,ptr R.k.A)::qd R.k.A R.k.bM R.k.bJ)) g y:=r;by_cases v:g=0
  .subst v;rw[bz]at c;obtain⟨p,a,rfl⟩:=c;rcases ak.1 a with rfl|a
   .exact⟨_,bI ..,rfl⟩
   .exact⟨p,b p (l.sA p a),rfl⟩
  .rw[gk _ _ v]at d c;obtain⟨p,a,rfl⟩:=l.L9 g y d c;exact⟨p,b p a,rfl⟩
 .show cu σ.tk t ld j≠ld;rw[gk _ _ m];exact q j
 .show cu σ.Inb 0 _ σ.ng=none;rw[gk _ _ ω];exact l.Xf
 .show σ.L+1=_;rw[C,f1]
theorem HU(H:tZ R)(FA:∀Λ t κ bg Y,rB (eD R Post Λ t κ bg Y) R.k t)(IH:∀Y,Y<m+1->p7 R Post Y)(o:Co R σ s w.heap.size)(OJ:∀j,σ.tk j≠ld)(Y:σ.Inb 0=none)(hL:σ.L=σ.pk R)(hS:Sat (jO R σ) w (pM s++dD R σ s))(hP:PV (jO R σ) s (bA s))(hQ:QI s)(S:TI s)(Q9:Hs R s)(Y:qo R.k.A (R.cR::R.lT) g)(DD:∀j q,σ.tk j=jm q->lV R Post (m+1) j q)(hq:s.q=i::D)(ht:(s.l.ag i).t=(t:Int))(I:t<s.l.tl)(P:σ.tk t=none)(hc:(s.l.ag i).c=0)(Nj:Fin R.k.V R.Lf m (some (t,(s.l.tk t).p,none)) (s.l.pop i)):sN R Post σ 0 g w:=by
 have GG:=mO (cc:=cD R σ) H.hA H.iA o.n5;have q:σ.nb<=9989:=by have:=o.o9 I P;have:=H.hn;omega
 have hi:i∈s.q:=ξ
 obtain⟨ba,bt0,bw0,q,Q,q,E⟩:∃ba A x:Nat,s.cv i=.func (.func 48) #[] #[ptr ba,ptr A,ptr x]/\Has s.cx (oR ba 0 [ptr s.k.A] false)/\Has s.cx (oR A 0 [ptr (s.T t)] false)/\Has s.cx (oR x 0 [s.wk t] false):=by
  let⟨_,a1,a2,a3,_,_,Y⟩:=(hQ.cv i hi).1 hc;grind
 obtain⟨ff,fa,Y⟩:∃(ff:Nat)(fa:gd),s.wk t=.func (.func ff) #[] fa:=by
  by_cases Tr:t<R.k.V.nc
  .exact⟨_,_,o.wk t Tr⟩
  .let⟨_,_,_,_,_,_,_,_,_,_,_,_,z,_⟩:=S.wk t (by rw[o.hk];omega) I;simp_all
 have F0:∀dl L nb,nb<=9999->aB prog true (DX (jO R σ)) (fP prog Post (KD R.wI R.k.A (cD R σ) σ.st) (QD R.k.A) (jq R.l) σ.St σ.Inb (hU R.k.A) L nb 0 σ.ng dl):=λdl L nb V=>aal H.hA H.iA V o.n5 o.L9 0;have F:aB prog true (DX (jO R σ)) (sN R Post σ 0):=F0 0 σ.L σ.nb ω;have O:s.k.A=R.k.A:=by rw[o.hk]
 have L:(fF s i).2=.func (.func 48) #[] #[ptr ba,ptr bt0,ptr bw0]:=by
  unfold fF;simp_all
 refine AR F (λa wr h=>o.hB H a wr h) hS hP (o.Gi H hP.cx) hQ hq (by simp_all;omega) L func48 φ φ λfr G f n hBk k1 u hP1 hQ1=>?_;rw[O]at hBk;have L:=k1.size;have L:∀{r},Has s.cx r->Has (pM (s.bD i D f n)++dD R σ s) r:=λh=>(((((h.app (tS s)).cons).app (wS s)).app (gA s)).pre _).app _;rw[O]at Q;rw[Y]at E
 refine HT F R.k.A (s.T t) R.k.bM R.k.bJ ba bt0 bw0 fa fr (R.cR::R.lT) G hBk (Has.sat u (L Q)) (Has.sat u (L q)) (Has.sat u (L E)) (Has.rd u (L Q)) (Has.rd u (L q)) (Has.rd u (L E)) (λa wr h=>o.hB H a wr ω)
  (λc yR B X A x bg T M5 k2 q cX cbt cbw XH cbf=>?_)
 rw[<-Y]at cbw;have F:=k2.size;have bX:=q X ψ;have bT:=q A ψ;have bG:=q bg ψ;have bW:=q x ψ;have bF:=q T ψ;have hss:∀l,nG σ.St (λg=>(σ.Inb g).isSome) l->¬jq R.l l:=λy ⟨q,W,h2⟩ ⟨A',_,z⟩=>by
  obtain⟨p,hp,rfl⟩:=o.L9 q y W h2;have:=o.st p hp;grind
 refine Oq R.k.A GG ω Ko F0 hss (λw h=>h.2.2.1) (λw h=>h.2.2.2.2) c yR B ?_;refine M5 (λg=>fP prog Post (KD R.wI R.k.A (cD R σ) σ.st) (QD R.k.A) (jq R.l) σ.St σ.Inb (hU R.k.A) (σ.L+1) (σ.nb+1) 0 σ.ng 0 g B) (pE (F0 0 (σ.L+1) (σ.nb+1) ω) B) (λa ⟨Iz,a,K,Qa⟩=>?_);refine fP.assume GG (λa g=>?_);have U:=Dk (B':=B.heap.size) (X:=X) (bg:=bg) (en:=f) (eb:=n) H o hq ht hc I P OJ hL ω bX.2 bG.2;have X9:=mO (cc:=cD R σ) H.hA H.iA U.co.n5;have g:KD R.wI R.k.A (cD R σ) (σ.begun R t X bg).st B:=⟨a.1,vT cX (vT XH a.2.1),a.2.2⟩;refine fP.less X9 (λw h=>⟨h.1,FI (λy C=>aP _ (aP _ C)) (λ_ h=>h) h.2.1,h.2.2⟩) g ?_;have g:∀c'∈(cD R σ),∃g,B.heap[c']? =some (.chan 0 #[] false g g false):=a.2.1.2;have J:∀y∈((⟨X,0,none⟩,ptr R.k.A)::qd R.k.A R.k.bM R.k.bJ:oJ),y∈(σ.begun R t X bg).st:=λy C=>by
  rcases ak.1 C with rfl|C
  .exact bI ..
  .exact aP _ (aP _ (o.sA y C))
 let⟨nh,hgo⟩:=Qa (KD R.wI R.k.A (cD R σ) (σ.begun R t X bg).st) (wD ((⟨X,0,none⟩,ptr R.k.A)::qd R.k.A R.k.bM R.k.bJ)) B.heap.size B (λw h y C=>h.2.1.1 y (J y C)) (λy C=>⟨⟨y,C,rfl⟩,(U.co.st y (J y C)).2.2⟩);refine fP.hire (es:=#[]) X9 ω Iz (λd m _=>K _) ψ (sh:=lz R) (Ak:=wD ((⟨X,0,none⟩,ptr R.k.A)::qd R.k.A R.k.bM R.k.bJ)) (nh:=nh+1) (xz H.we _) (λl a=>⟨vm a,λz=>?_⟩) (.inl ⟨nh,B,rfl,hgo⟩) (λc' I9=>?_) (λd s' c' W h2 h3 h4=>?_) o.Xf ?_
 .obtain⟨y,C,rfl⟩:=a;have:=U.co.st y (J y C);let⟨A',_,z⟩:=z;grind
 .rcases l8 I9 with rfl|rfl
  .simp_all
  simp_all
 .let⟨j,q1,M,_,a⟩:=o.inj W h2 h4;have:=(o.cb _ (o.cs j (o.pk j q1 M).tn)).2.2;rcases l8 h3 with e|e
  .omega
  omega
 let N:List aH:=[oR X 0 [ptr R.k.A] false,oR bg 0 [KX R.k.A] false,oR A 0 [ptr (s.T t)] false,oR x 0 [s.wk t] false,oR T 0 [.func (.func 61) #[] #[ptr x,ptr A,ptr X]] false]
 have aaJ:Flat N:=by
  rw[bO];grind
 have T0:Sat (jO R σ) B (pM (s.bD i D f n)++(x6 (s.bD i D f n) t::((N++R.S)++dD R (σ.begun R t X bg) s))):=by
  have W:Sat (jO R σ) G (pM (s.bD i D f n)++(x6 (s.bD i D f n) t::dD R (σ.begun R t X bg) s)):=by
   have h0:=u.perm ((uU (σ':=σ.begun R t X bg) (ga I o.tl) rfl rfl s).append_left _);rw[P]at h0;have a:Sat (jO R σ) G (pM (s.bD i D f n)++dD R (σ.begun R t X bg) s):=h0;have h5:=a.Rz (Z:=[x6 (s.bD i D f n) t]) λr v=>by
    simp only[ak,bH,or_false]at v;subst v;exact⟨gF _ (gU _ (Bf (s:=s.bD i D f n) I)),rfl⟩
   exact h5.perm (eY (l₁:=pM (s.bD i D f n))).symm
  have a:∀r∈pM (s.bD i D f n)++(x6 (s.bD i D f n) t::dD R (σ.begun R t X bg) s),∀j,r.has j->(r.ad j).block<G.heap.size:=λr v j l=>W.blk v l;have a:∀b,G.heap.size<=b->jO R σ ⟨b,0,none⟩ false:=λb p=>o.hB H _ _ χ;have h2:=W.PZ k2;have h3:Sat (jO R σ) B (N++(pM (s.bD i D f n)++(x6 (s.bD i D f n) t::dD R (σ.begun R t X bg) s))):=by
   have ne:∀(Z:aW),(∀r∈Z,r.wr=false)->∀b,G.heap.size<=b->∀r∈Z++(pM (s.bD i D f n)++(x6 (s.bD i D f n) t::dD R (σ.begun R t X bg) s)),r.wr=true->∀j,r.has j->(r.ad j).block≠b:=λZ d b p r v y j l e=>by
    grind
   have a1:=h2.Yr cbf (a _ bF.1) (ne [] ψ _ bF.1);have a2:=a1.Yr cbw (a _ bW.1) (ne [oR T 0 [.func (.func 61) #[] #[ptr x,ptr A,ptr X]] false] ψ _ bW.1);have a3:=a2.Yr cbt (a _ bT.1) (ne [oR x 0 [s.wk t] false,oR T 0 [.func (.func 61) #[] #[ptr x,ptr A,ptr X]] false] ψ _ bT.1);have d:=a3.Yr XH (a _ bG.1) (ne [oR A 0 [ptr (s.T t)] false,oR x 0 [s.wk t] false,oR T 0 [.func (.func 61) #[] #[ptr x,ptr A,ptr X]] false] ψ _ bG.1);exact d.Yr cX (a _ bX.1) (ne [oR bg 0 [KX R.k.A] false,oR A 0 [ptr (s.T t)] false,oR x 0 [s.wk t] false,oR T 0 [.func (.func 61) #[] #[ptr x,ptr A,ptr X]] false] ψ _ bX.1)
  have h4:=h3.Rz (Z:=R.S) λr v=>⟨gF _ (gF _ (aP _ (gF _ (gF _ (gF _ v))))),H.ro r v⟩
  refine h4.perm ?_;have e1:=(aaa (l₁:=R.S) (l₂:=N)).append_right (pM (s.bD i D f n)++(x6 (s.bD i D f n) t::dD R (σ.begun R t X bg) s));rw[dU]at e1;refine e1.trans ?_;have:=fA (N++R.S) (pM (s.bD i D f n)++[x6 (s.bD i D f n) t]) (dD R (σ.begun R t X bg) s);simp_all
 have d:(eD R Post (m+1) t σ.ng bg (s.bD i D f n)).me R.k t=x6 (s.bD i D f n) t:=by
  show wF (s.T t) R.k.A t (s.l.tk t).c (s.aS t)=wF (s.T t) s.k.A t (s.l.tk t).c (s.aS t);rw[O]
 have g:0<R.k.V.nc:=by
  let⟨c,_,z,_⟩:=S.cl t I;rw[o.hk]at z;omega
 have o:oR X 0 [ptr R.k.A] false∈pM (s.bD i D f n)++(x6 (s.bD i D f n) t::((N++R.S)++dD R (σ.begun R t X bg) s)):=gF _ (aP _ (gU _ (gU _ (bI ..))));have w:oR bg 0 [KX R.k.A] false∈pM (s.bD i D f n)++(x6 (s.bD i D f n) t::((N++R.S)++dD R (σ.begun R t X bg) s)):=gF _ (aP _ (gU _ (gU _ (aP _ (bI ..)))));have q:∀r∈gS (s.bD i D f n),r∈pM (s.bD i D f n)++(x6 (s.bD i D f n) t::((N++R.S)++dD R (σ.begun R t X bg) s)):=λr v=>gF _ (aP _ (gF _ (gU _ v)));have h:=T0.still (u:=KX R.k.A) w;have a:∀b,G.heap.size<=b->∀k,k<(s.bD i D f n).k.V.nl->((s.bD i D f n).k.V.ly k).k=5->((s.bD i D f n).f k).s=true->((s.bD i D f n).f k).g≠b:=λb p k c h5 k e=>by
  have:=BF (s:=s.bD i D f n) u (λr v=>gF _ (gU _ v)) c h5 k;omega
 have c:∀b,G.heap.size<=b->∀j,j<(s.bD i D f n).l.tl->((s.bD i D f n).bf j).s=true->((s.bD i D f n).bf j).g≠b:=λb p j l k e=>by
  have:=rG (s:=s.bD i D f n) u (λr v=>gF _ (gU _ v)) l k;omega
 have l:=hP1.still (u:=KX R.k.A) T0 w q (a _ bG.1) (c _ bG.1);have b:=h.still (u:=ptr R.k.A) o;have k:=l.still (u:=ptr R.k.A) h o q (a _ bX.1) (c _ bX.1);have a:∀{r},r∈N->r.wr=false->Has (N++R.S) r:=λv y=>by
  let⟨i,hi⟩:=lP v;exact Has.pre (C:=N) ⟨y,i,hi⟩ _
 refine L6 (Λ:=m+1) (κ:=σ.ng) (bg:=bg) (i0:=s.bD i D f n) (R':=N++R.S) (bf:=T) (bw:=x) (bt:=A) (X:=X) (s:=s.bD i D f n) (m:=m) H (FA _ _) IH ⟨σ.begun R t X bg,s.bD i D f n,B.heap.size,m,U,λj q1 M=>?_,gr m⟩ ⟨by rw[d];exact b,k,hQ1,(aaJ.app H.fl).app (U.co.flat H),(H.eH g).app N,az _,⟨Gu.refl _ _,U.co.hk,I,⟨rfl,rfl,rfl⟩,Mo.refl _,U.co.cs⟩,Q9,{S with}⟩ I rfl Nj (az _) (λr v=>v.app N) (a (by simp[N]) rfl) (a (by simp[N]) rfl) (a (by simp[N]) rfl) (a (by simp[N]) rfl);have V:cu σ.tk t ld j=jm q1:=M;by_cases e:j=t
 .rw[e,bz]at V;cases V
 .rw[gk _ _ e]at V;exact(DD j q1 V).1
end
section
variable{σ σ':Gd}{s:PS}
def KJ(R:RN)(cc:aN)(st:oJ)(wS w:aj):Prop:=KD R.wI R.k.A cc st w/\Kp [] wS w [⟨R.k.A,5,none⟩,⟨R.k.A,6,none⟩]/\w.heap.size=wS.heap.size
theorem Vy{cc:aN}(H:tZ R)(b:∀p∈st,p.1≠⟨R.k.A,5,none⟩)(g:∀p∈st,p.1≠⟨R.k.A,6,none⟩)(a:R.k.A<wS.heap.size):JK (KJ R cc st wS) (jq R.l) wS.heap.size (hU R.k.A):=by
 have f:=H.iA;refine⟨λw d h=>⟨h.1,⟨h.2.1.size,h.2.1.cellC,h.2.1.Q6,h.2.1.blk⟩,h.2.2⟩,λw v h=>?_,λw v h=>?_,⟨_,H.hA,.inl rfl⟩,⟨_,H.hA,.inr rfl⟩,a,a⟩
 .exact⟨((mO H.hA H.iA b).st w v).2 h.1,h.2.1.EH rfl (.inr (.inl (by simp[hU]))),by simp[World.setCell,h.2.2]⟩
 .let⟨⟨e,d,⟨a,c⟩,_,_,b⟩,i,j⟩:=h;refine⟨⟨A5 f e,(rX g).2 d,⟨a,(qa _ _ _ _ (by simp[hU])).trans c⟩,ξ,v,D6 _ _ _ b⟩,i.EH rfl (.inr (.inl (by simp[hU]))),ξ⟩
structure Lq(R:RN)(s:PS)(dn:aW)(w:aj):Prop where
 old:Old R.wI w
 hk:s.k=R.k
 l:R.Lf s.l
 AB:R.k.A<w.heap.size
 sat:Sat (cP R.wI.heap.size R.l []) w (pM s++(dn++R.S))
 pv:PV (cP R.wI.heap.size R.l []) s (bA s)
 fl:Flat (dn++R.S)
 dW:∃Y,dn=Y++R.W
 ch:∀j,j<R.k.V.nc->fu (dn++R.S) (s.oh j) (s.l.ou j).b.ch
def Rm(R:RN)(Post:qz):Prop:=∀ng s dn w',0<ng->Lq R s dn w'->nM prog Post (Old R.wI) (jq R.l) ng (G (R.cR.finish (.tuple #[])) R.lT) w'
theorem MX(H:tZ R)(A:Rm R Post)(f:Co R σ s w.heap.size)(OJ:∀j,σ.tk j≠ld)(Ra:σ.Inb 0=none)(hL:σ.L=σ.pk R)(I:Sat (jO R σ) w (pM s++dD R σ s))(c:PV (jO R σ) s (bA s))(hQ:QI s)(U:TI s)(Q:qo R.k.A (R.cR::R.lT) g)(hq:s.q=[])(hl:R.Lf s.l):sN R Post σ 0 g w:=by
 have m:∀j,(j<s.l.tl/\σ.tk j=Da)\/σ.tk j=none:=λj=>by
  by_cases l:j<s.l.tl
  .rcases Tg (σ.tk j)with e|⟨q,e⟩|e|e
   .exact .inr e
   .let⟨i,hi,_⟩:=(f.all j l).2 q e;simp_all
   .simp_all
   simp_all
  .exact .inr (f.fr j ω)
 have B:∀j,j<s.l.tl->σ.tk j=Da:=λj l=>by
  rcases m j with e|e
  .exact e.2
  .let⟨i,hi,_⟩:=(f.all j l).1 e;simp_all
 have D:σ.Inb=λ_=>none:=by
  funext x;by_cases hx:x=0
  .simp_all
  .cases e:σ.Inb x with
   |none=>rfl
   |some y=>
    let⟨j,q,i,_⟩:=f.yN x y e hx;grind
 have W:σ.L=0:=by
  rw[hL];have:∀n,n<=R.n->sumTo n (λj=>G8 (σ.tk j))=0:=λn=>by
   induction n with
   |zero=>exact λ_=>rfl
   |succ n ih=>
    intro h;simp only[sumTo];rw[ih ω];rcases m n with z|z
    .rw[z.2];rfl
    .rw[z];rfl
  simp_all
 have i:tv R σ.tk=[]:=by
  unfold tv;rw[List.flatMap_eq_nil_iff];intro j l;rcases m j with z|z
  .rw[z.2];rfl
  .rw[z];rfl
 have i:s.k.A=R.k.A:=by rw[f.hk]
 have m:bA s=[]:=by unfold bA;rw[hq];rfl
 obtain⟨b,cap,m⟩:∃b cap,s.en=.slice b 0 cap:=by
  have:=c.en.2;grind
 have h1:=I.val 0 _ rfl (0,1) ⟨aD,(by decide:1<2)⟩;have y:=I.ok 0 _ rfl (0,1) ⟨aD,(by decide:1<2)⟩;have F:aB prog true (DX (jO R σ)) (sN R Post σ 0):=f.Jh (Post:=Post) H 0;have y:w.cell? ⟨R.k.A,1,none⟩=some (.slice b 0 cap):=by rw[<-m,<-i];exact h1
 refine N4 F R.k.A R.cR R.lT b cap g w Q y ⟨oO δ δ,λh=>by cases h⟩ (λy b=>?_);clear F;intro d gs T q sl ds sg L i V M i hd C;rw[W,bK]at V C ⊢;rw[D]at C;have m:=f.PG H;have GG:=mO (cc:=cD R σ) H.hA H.iA f.n5;have X:KD R.wI R.k.A (cD R σ) σ.st (w.at d):=(jA GG).1 C.keep;have Y:ji .u32 ⟨R.k.A,6,none⟩ w 0:=i;have v:R.k.A<w.heap.size:=f.AB
 have m:Kp [] w (Wv (hU R.k.A) (w.at d) ds.length) [⟨R.k.A,5,none⟩,⟨R.k.A,6,none⟩]:=
  Kp.EH (w':=w.at d) (by exact⟨az _,λ_ _ _ _ h=>h,λ_ _ _ _ _=>rfl,λ_ _ _ _ _ _ h=>h⟩) rfl (.inr (.inl (by simp[hU])))
 have i:KJ R (cD R σ) σ.st w (Wv (hU R.k.A) (w.at d) ds.length):=⟨C.keep,m,HC _⟩;have C':=C.less (K':=KJ R (cD R σ) σ.st w) (λw h=>h.1) i;have J:=Vy (cc:=cD R σ) (wS:=w) H f.n5 f.n6 v;let⟨nm,S⟩:=Ce (K:=KJ R (cD R σ) σ.st w) (Shun:=jq R.l) (B:=w.heap.size) (Anchor:=λg=>g=G (R.cR.finish (.tuple #[])) R.lT) R.k.A (λw h=>h.1.2.2.1) (λw h=>h.1.2.2.2.2) y (R.cR::R.lT) (λk=>b (λg=>∃n,WS prog (KJ R (cD R σ) σ.st w) (jq R.l) w.heap.size (hU R.k.A) (λg=>g=G (R.cR.finish (.tuple #[])) R.lT) k n 8 g) (aao (iW k 8)) ⟨0,WS.Oo rfl rfl⟩) 9999 (az _);have O:ji .u32 (hU R.k.A).se (Wv (hU R.k.A) (w.at d) ds.length) 0:=fN (show ji .u32 (hU R.k.A).se (w.at d) 0 from Y) (hU R.k.A).ne _;obtain⟨N,b,t',e1,E,w',u,K,b,rfl,e3,e4,e5,e6,e7,b,b⟩:=P5 J _ 9999 _ gs _ sl T q _ false 0 nm ds sg (gv ds.length 0) 0 rfl rfl χ C' S (λz=>by cases z) ω (.inl ⟨.inl ⟨ω,ω⟩,M,rfl,rfl⟩) (zg GG X _) O hd;let⟨k1,Z,k3⟩:=e6.keep;subst e5;have S':=uP (e6.hears e7) k1.1;have t:Sat (cP R.wI.heap.size R.l []) w (pM s++(σ.dn++R.S)):=by
  have e:dD R σ s=gS s++(σ.dn++R.S):=by show gS s++nD R σ=_;unfold nD;grind
  rw[e]at I;exact(I.sub (nN (D8 _ _) _)).OB (λr _ j _ o=>⟨o.1,λz=>by cases z⟩) (λr _ _ j _ o=>⟨o.1,λ_=>⟨(o.2 rfl).1,fun⟨p,P,_⟩=>by cases P⟩⟩)
 have up:∀(a:Addr)(wr:Bool),jO R σ a wr->cP R.wI.heap.size R.l [] a wr:=λa wr o=>⟨o.1,λz=>⟨(o.2 z).1,fun⟨p,P,_⟩=>by cases P⟩⟩
 have m:PV (cP R.wI.heap.size R.l []) s (bA s):=⟨⟨c.jr.row,c.jr.le,c.jr.mx,λa d b wr h=>up b wr (c.jr.PD a d b wr h)⟩,c.en,λd=>⟨(c.eo d).1,λa wr h=>up a wr ((c.eo d).2 a wr h)⟩,λk d a=>⟨(c.fb k d a).nil,(c.fb k d a).len,λi b wr h=>up b wr ((c.fb k d a).ok i b wr h),(c.fb k d a).val⟩,λk d a=>⟨(c.rm k d a).nil,(c.rm k d a).len,λi b wr h=>up b wr ((c.rm k d a).ok i b wr h),(c.rm k d a).val⟩,c.cx,λj l=>⟨(c.bg j l).nil,(c.bg j l).len,λi b wr h=>up b wr ((c.bg j l).ok i b wr h),(c.bg j l).val⟩⟩;have a:Flat (σ.dn++R.S):=f.RE.app H.fl;have b:=l9 (b:=s.k.A) t m a (i0:=0) (j0:=(0,0)) rfl δ δ ⟨aD,(by decide:0<2)⟩ rfl
 have c:Lq R s σ.dn w':=
  {old:=k1.1
   hk:=f.hk
   l:=hl
   AB:=ga v Z.size
   sat:=t.kp Z (λr b j l z=>by
    have o:=((t.mem b).ok j l).1.1;simp only[ak,bH,or_false]at z;rcases z with z|z
    .exact o ⟨_,H.hA,.inl (by rw[z])⟩
    .exact o ⟨_,H.hA,.inr (by rw[z])⟩) (λr b g e n b x hx=>by
    grind)
   pv:=m
   fl:=a
   dW:=f.dW
   ch:=λj l=>f.ed j l (B j (ga l (by have:=U.nc;rw[f.hk]at this;exact this)))}
 have a:=A σ.ng s σ.dn w' f.Ku c w'.drawn E t' K u (e3.trans L) e4 (by rw[k3];exact S');exact Goal.back e1 a
def FZ(H:tZ R)(N:∀Λ t κ bg M,rB (eD R Post Λ t κ bg M) R.k t)(r:Rm R Post):∀m,p7 R Post m:=by
 intro m;induction m using Nat.strongRecOn with
 |_ m G=>
  intro σ s w g u d h y v x n f k b j e;cases m with
  |zero=>exact b.elim
  |succ m=>
   obtain⟨_,b⟩:=b;cases l:s.q with
   |nil=>
    rw[Ft n l,sJ δ]at b;exact MX H r u d h y v x n f e l b
   |cons i D=>
    rw[MK n l,af ω]at b;simp only[mY]at b;obtain⟨t,K,a⟩:=b;obtain⟨I,L,g,B⟩:=u.jz i ξ;have:I=t:=ω
    subst this;rcases a with ⟨m,_,b⟩|⟨wn,J,g,a⟩
    .rcases B with ⟨_,i⟩|⟨_,_,_,⟨z,_⟩|⟨⟨z,_⟩|⟨z|z,_⟩,_⟩⟩
     .exact HU H N (λo c=>G o c) u d h y v x n f k e j l K L i m b
     all_goals omega
    .rcases a with ⟨m,i,b⟩|⟨a,A,F,p,b⟩
     .exact MT H (λo c=>G o c) u d h y v x n f k e j l m J g i b
     .obtain⟨q,E,C⟩:∃q,σ.tk I=jm q/\q.wn=wn:=by
       grind
      subst C;refine LU H (λo c=>G o c) u d h y v x n f k e j l ⟨K,J,A,F⟩ E ⟨p,b⟩
end
def cc0(s:PS):List (Nat×Nat):=(List.range s.l.tl).map λj=>(s.T j,s.aS j)
def Oz(R:RN)(s:PS):List (Addr×Value):=qd R.k.A R.k.bM R.k.bJ++(cc0 s).map λq=>(⟨q.1,3,none⟩,.chan (some q.2))
def yc(R:RN)(s:PS)(ng:Nat):Gd:={st:=Oz R s,ng:=ng,L:=0,nb:=0,Inb:=λ_=>none,St:=λ_ _=>False,tk:=λ_=>none,dn:=R.W,cc:=cc0 s}
def AE(c:Nat):∀n,sumTo n (λ_=>c)=n*c
 |0=>by simp[sumTo]
 |n+1=>by simp only[sumTo,AE c n];rw[YD,Nat.one_mul]
section
variable{s:PS}
def Wh(H:tZ R)(U:s.k=R.k)(L:0<ng)(W:R.wI.heap.size<=B)(O:R.k.A<B)(G:R.k.bM<B/\R.k.bJ<B)(V:∀j,j<s.l.tl->s.T j<B)(N:∀j,j<s.l.tl->R.wI.heap.size<=s.aS j/\s.aS j<B/\s.aS j≠R.k.bM/\s.aS j≠R.k.bJ)(M:∀i j,i<s.l.tl->j<s.l.tl->s.aS i=s.aS j->i=j)(I:s.l.tl<=R.n)(F:∀j,j<R.k.V.nc->s.wk j=.func (.func 30) #[] #[ptr R.bl,ptr R.bo,ptr (R.bi j)])(n:∀i∈s.q,∃t:Nat,t<s.l.tl/\(s.l.ag i).t=t/\(s.l.ag i).c=0)(J:∀i∈s.q,i<s.l.al)(A:∀t:Nat,t<s.l.tl->∃i∈s.q,(s.l.ag i).t=t)(o:s.q.Pairwise λi j=>(s.l.ag i).t≠(s.l.ag j).t)(E:s.l.wl=0):Co R (yc R s ng) s B:=by
 have k:∀q∈(yc R s ng).cc,∃j,j<s.l.tl/\q=(s.T j,s.aS j):=λq f=>by
  let⟨j,d,e⟩:=gV.1 f;exact⟨j,aZ.1 d,e.symm⟩
 refine⟨U,L,W,O,λp u=>?_,λy p=>gU _ p,λq f=>gF _ (gV.2 ⟨q,f,rfl⟩),λj d=>gV.2 ⟨j,aZ.2 d,rfl⟩,λq f D K e=>?_,λq f=>?_,G,I,λ_ _=>rfl,F,λg x c _=>(by cases c),λg e c=>(by cases c),λj q c=>(by cases c),λi m=>?_,J,o.imp λh e=>h (by rw[e]),λt T=>⟨λ_=>?_,λq c=>(by cases c)⟩,λi m j d t g g c Q=>?_,λw S=>(by rw[E]at S;cases S),gl _,λj _ c=>(by cases c),H.flW,⟨[],rfl⟩⟩
 .rcases dJ.1 u with u|u
  .simp only[qd,ak,bH,or_false]at u;rcases u with rfl|rfl
   .exact⟨(by decide:3≠5),(by decide:3≠6),O⟩
   .exact⟨(by decide:4≠5),(by decide:4≠6),O⟩
  .obtain⟨q,f,rfl⟩:=gV.1 u;obtain⟨j,d,rfl⟩:=k q f;exact⟨(by decide:3≠5),(by decide:3≠6),V j d⟩
 .obtain⟨i,m,rfl⟩:=k q f;obtain⟨j,d,rfl⟩:=k D K;rw[M i j m d e]
 .obtain⟨j,d,rfl⟩:=k q f;exact N j d
 .let⟨t,c,Q,f⟩:=n i m;exact⟨t,c,Q,.inl ⟨f,rfl⟩⟩
 .let⟨i,m,c⟩:=A t T;let⟨_,_,_,f⟩:=n i m;exact⟨i,m,c,f⟩
 .have f:(s.l.ag i).t=t:=c.elim (λh=>h.1) (λh=>h.1);have c:(s.l.ag j).t=t:=Q.elim (λh=>h.1) (λh=>h.1);refine Classical.byContradiction λe=>?_;let⟨a,f⟩:=u9 m;let⟨b,c⟩:=u9 d;have P:=HA.1 o;let⟨C,r⟩:=lg.1 f;let⟨v,l⟩:=lg.1 c;rcases Hu a b with z|z|z
  .have:=P a b C v z;rw[r,l]at this;omega
  .subst z;rw[r]at l;exact e l
  .have:=P b a v C z;rw[r,l]at this;omega
def X7(H:tZ R)(Λ t κ bg:Nat)(a:PS):rB (eD R Post Λ t κ bg a) R.k t:=
 Yc (λp=>by
  have F:=p.N7.co.Jh (Post:=Post) H κ;have a:(κ==0)=false:=by have:=p.N7.BW;simp;omega
  rw[a]at F;exact F) (λp=>p.N7.co.hB H)
def GZ(H:tZ R)(a:Rm R Post)(k:KD R.wI R.k.A (cD R (yc R s ng)) (Oz R s) w)(c:QD R.k.A w)(l:ji .u64 ⟨R.k.A,5,none⟩ w 0)(e:Co R (yc R s ng) s w.heap.size)(g:Sat (jO R (yc R s ng)) w (pM s++dD R (yc R s ng) s))(i:PV (jO R (yc R s ng)) s (bA s))(h:QI s)(b:TI s)(d:Hs R s)(f:Fin R.k.V R.Lf m none s.l):
 nM prog Post (Old R.wI) (jq R.l) ng (G (Frame.enter prog 32 #[ptr R.k.A] .normal) (R.cR::R.lT)) w:=by
 have f1:(yc R s ng).pk R=0:=by show sumTo R.n (λ_=>0)=_;rw[AE,Nat.mul_zero]
 have base:sN R Post (yc R s ng) 0 (G (Frame.enter prog 32 #[ptr R.k.A] .normal) (R.cR::R.lT)) w:=by
  have F:aB prog true (DX (jO R (yc R s ng))) (sN R Post (yc R s ng) 0):=e.Jh (Post:=Post) H 0;simp only[enter_at _ func32 rfl,ntmps32];walk_nrm;refine F.sq ?_;refine F.bl ?_;refine F.ctl (λ_=>stepG_loop) ?_;refine FZ H (X7 H) a m (yc R s ng) s w _ e (λj z=>by cases z) rfl f1.symm g i h b d f (λj q z=>by cases z) ?_;exact⟨_,_,_,_,_,_,_,_,_,_,_,_,_,_,_,_,_,_,_,_,_,_,_,_,_,_,_,_,_,_,_,_,_,_,rfl⟩
 exact fP.Iy (mO H.hA H.iA e.n5) rfl k c l base
end
end Go.Proofs.YtobagnjnbmgidabGreatDoor
