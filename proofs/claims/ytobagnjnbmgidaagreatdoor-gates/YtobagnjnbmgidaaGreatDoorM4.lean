import Derived.Test.YtobagnjnbmgidaaGreatDoorG1
set_option linter.all false
set_option maxHeartbeats 0
set_option maxRecDepth 100000
namespace Go.Proofs.YtobagnjnbmgidaaGreatDoor
open Go.Conc
open Go.ConcN (sumTo upd sumTo_upd upd_ne upd_same)
variable{nh:Nat}{A5:dr}
variable{Post:qG}{K' Q Q':cF}{St uo:Nat->Loc->Prop}{Inb I:Nat->Option Seat}{h j c k kk L nb n dl t:Nat}{ds E:aP}{D O q U:cm}{T R:Trace}{A p:jH}{w w':aj}{a a₂ g g':aW}{s:Seat}{v z z':ay}{es:dL}{M M':Nat->Goroutine->Prop}{F V:kr}
section
variable{P:aI}{K:cF}{Shun:dr}{B:Nat}{Gp:qE}
theorem C3.passed(C:C3 P K Shun St B Inb Gp h ds D T A w q)(f:∀x,x≠h->x≠j->p[x]? =A[x]?)(hI:∀x,x≠h->x≠j->I x=Inb x)(S:I j=none)(N:∀x,x≠h->x≠j->uo x=St x)(J:∀x,x≠h->(x∈E↔x∈ds))(hjh:j≠h)(Ox:j∉ds)(Qj:E.Nodup)(G:∀x,x≠h->O x=D x)(hq:∀x,x≠h->U x=q x)(hD:∀x,Deaf R x=Deaf T x)(X9:∀x,p.size<=x->A.size<=x)(hh:(h∉E/\∃g,p[h]? =some g/\Idle P K (uo h) B R h (U h) g (I h))\/(h∈E/\0<h/\I h=none/\∃g,p[h]? =some g/\DP P K Gp (U h) (O h) g/\Deaf R h=dC (O h)))(gI:∀i s c,I i=some s->s.has c->∃cap k,w'.heap[c]? =some (.chan cap #[] false k k false))(Ig:∀s,I h=some s->s.Wf)(m:∀i s o c,I h=some s->i≠h->i≠j->Inb i=some o->s.has c->¬o.has c)(H:∀s c,I h=some s->s.has c->c<B)(WQ:∀l,(I h).isSome->uo h l->¬Shun l)(hp:P3 Shun uo (λg=>(I g).isSome) B j R)(hK:K w'):C3 P K Shun uo B I Gp j E O R p w' U:=by
 have b:∀i s,I i=some s->(i=h)\/(i≠h/\i≠j/\Inb i=some s):=λi s e=>by
  by_cases e1:i=h
  .exact .inl e1
  .have e2:i≠j:=λz=>by rw[z,S]at e;cases e
   exact .inr ⟨e1,e2,by rw[<-hI i e1 e2];exact e⟩
 refine⟨λx y d hd hy=>?_,λx d=>?_,Qj,gI,λi s e=>?_,λi i' s o c e1 e2 h1 W=>?_,λx d=>by rw[hD];exact C.above x (X9 x d),λi s c e hc=>?_,S,λi l hs hl=>?_,hp,hK⟩
 .by_cases e:x=h
  .subst e
   rcases hh with ⟨_,g,hg,hid⟩|⟨yB,_⟩
   .rw[hg]at hy;obtain rfl:=Option.some.inj hy;exact hid
   .exact absurd yB hd
  .rw[f x e d]at hy
   have:=C.idle x y e (λz=>hd ((J x e).2 z)) hy;rw[hI x e d,N x e d,hq x e];cases ei:Inb x with
   |none=>rw[ei]at this;exact⟨this.1,by rw[hD];exact this.2⟩
   |some s=>rw[ei]at this;exact this
 .by_cases e:x=h
  .subst e
   rcases hh with ⟨hn,_⟩|⟨_,h0,hn,g,hg,OB,wX⟩
   .exact absurd d hn
   .exact⟨λz=>hjh z.symm,h0,hn,g,hg,OB,wX⟩
  .have u:=(J x e).1 d
   have r:x≠j:=λz=>Ox (z▸u)
   obtain⟨h1,W,h3,g,h4,h5,h6⟩:=C.dep x u;exact⟨r,W,by rw[hI x e r];exact h3,g,by rw[f x e r];exact h4,by rw[hq x e,G x e];exact h5,by rw[hD,G x e];exact h6⟩
 .rcases b i s e with rfl|⟨_,_,Z⟩
  .exact Ig s e
  .exact C.wf i s Z
 .rcases b i s e1 with rfl|⟨i1,i2,Y⟩<;>rcases b i' o e2 with rfl|⟨i3,i4,X⟩
  .rfl
  .exact absurd W (m i' s o c e1 i3 i4 X h1)
  .exact absurd h1 (m i o s c e2 i1 i2 Y W)
  .exact C.inj i i' s o c Y X h1 W
 .rcases b i s e with rfl|⟨_,_,Z⟩
  .exact H s c e hc
  .exact C.low i s c Z hc
 .obtain⟨s,e⟩:=Option.isSome_iff_exists.1 hs
  rcases b i s e with rfl|⟨i1,i2,Z⟩
  .exact WQ l hs hl
  .exact C.ss i l (by rw[Z];rfl) (by rw[<-N i i1 i2];exact hl)
def UI(P:aI)(K:cF)(Shun:dr)(St:Nat->Loc->Prop)(B:Nat)(Inb:Nat->Option Seat)(Gp:qE)(L nb h j:Nat)(a₂:aW)(s:Seat)(c kk k n:Nat)(v:ay)(w:aj)(m:Machine)(t:Trace):Prop:=
 ∃(p yE:jH)(Az:aW)(d:Nat)(Ll:rq)(U:cm)(ds:aP)(D:cm)(Eh Ab:Trace)(fh:FuncId)(ph:String)(fj:FuncId)(pj:String),m=crowd p (Wv Gp ((w.at d).setChan c 0 #[] false (k+1) (k+1) false) (L+ds.length)) Ll/\
   t=Eh++(Ab++met h j fh ph fj pj c k 0)/\p.size=n/\yE.size=n/\p[h]? =some (Go.Conc.served a₂ undef)/\p[j]? =some (Go.Conc.served Az (commResult s.cases s.shape kk v true))/\s.home Az/\(∀x,x≠h->x≠j->p[x]? =yE[x]?)/\L+ds.length<=nb/\(∀i,i∈ds->D i<=2)/\
   C3 P K Shun St B Inb Gp h ds D Eh yE (Wv Gp (w.at d) (L+ds.length)) U/\P3 Shun St (λg=>(Inb g).isSome) B h (Eh++Ab)/\(∀x,Deaf (Eh++Ab) x=Deaf Eh x)/\Deaf Eh h=0
theorem rM(G:GK K Shun Gp)(d:K w)(hc:w.heap[c]? =some (.chan 0 #[] false k k false))(m x:Nat):(Wv Gp w m).setChan c 0 #[] false x x false=Wv Gp (w.setChan c 0 #[] false x x false) m:=
 vI w (λe=>by obtain⟨cs,el,f,b⟩:=(G.row w d).1;rw[e,hc]at b;cases b) _ _ _ _ _ _ _
theorem wx(G:GK K Shun Gp)(hB:Gp.st.block<B)(pO:nb<=9)(Z:j≠h)(hj:Inb j=some s)(hk:s.cases[kk]? =some (rcase c z))(hc:w.heap[c]? =some (.chan 0 #[] false k k false)):
 ∀(μ:Nat)(A:jH)(T:Trace)(q:cm)(sl:rq)(l:Nat)(ds:aP)(D:cm),sumTo A.size q=μ->j<A.size->A[h]? =some (parked a₂ #[scase c v z'] .send)->0<q j->L+ds.length<=nb->(∀i,i∈ds->D i<=2)->Deaf T h=0->
   C3 P K Shun St B Inb Gp h ds D T A (Wv Gp (w.at l) (L+ds.length)) q->∃N m' R,runNT P N (crowd A (Wv Gp (w.at l) (L+ds.length)) sl) T=(.next m',R)/\UI P K Shun St B Inb Gp L nb h j a₂ s c kk k A.size v w m' R:=by
 intro μ
 induction μ using Nat.strongRecOn with
 |_ μ ih=>
  intro A T q sl l ds D Vb J ha hqj hL yy wX C;have Ox:j∉ds:=λe=>by rw[(C.dep j e).2.2.1]at hj;cases hj
  have Ij:A[j]? =some A[j]:=hU J;have hS:Sits P (j==0) K (St j) B s (q j) A[j]:=by have:=C.idle j _ Z Ox Ij;rwa[hj]at this
  have sD:A[j].status=.running:=(Go.Conc.Sits.status C.keep hS).elim (·.1) λx=>by omega
  obtain⟨i,g,d,u,hi,hg,sE⟩:=crowd_pick (P:=P) (w:=Wv Gp (w.at l) (L+ds.length)) (sl:=sl) (C.awake ha (.inr rfl)) ⟨j,_,Ij,sD⟩;have o:stepT P (crowd A (Wv Gp (w.at l) (L+ds.length)) sl)=runT P (crowd A (Wv Gp (w.at d) (L+ds.length)) u) i:=sE;have Cd:C3 P K Shun St B Inb Gp h ds D T A (Wv Gp (w.at d) (L+ds.length)) q:=C.in (G.at' _ d C.keep) (λ_ _ _ _ _=>rfl);have zp:K (w.at d):=(jz G).1 Cd.keep;have G1:(w.at d).heap[c]? =some (.chan 0 #[] false k k false):=hc;have Vq:∀m,(Wv Gp (w.at d) m).heap[c]? =some (.chan 0 #[] false k k false):=λm=>(eE G zp m G1).trans G1
  have Eu:=Vq (L+ds.length);have JU:h<A.size:=(cH.1 ha).1;have Ql:i≠h:=λe=>by subst e;rw[ha]at hi;obtain rfl:=Option.some.inj hi;cases hg
  have Ig:=C.wf j s hj
  by_cases ej:i=j/\∃f,AtIn P (i==0) K (St i) B s g f
  .obtain⟨rfl,f,X⟩:=ej
   obtain⟨_,_,_,_,SR,esj,XL,WM⟩:=X;obtain⟨r,hr,hl,hd⟩:=evC_ops (i:=i) (fn:=g.frame.fn) (pos:=g.frame.place) XL
   have hp:partners (A.setIfInBounds i ph) c true=[(h,0)]:=by
    rw[partners_one (stand_get (Ne.symm Z) ha) λx y Y hy=>by
     rcases getElem?_stand A i x y hy with ⟨_,rfl⟩|⟨_,H⟩
     .exact offersAt_ph _ _
     .exact Cd.noSend Y H _]
    simp[offersAt_parked_send]
   have ho:∀(m:Nat)(c':CommCase),m≠kk->s.cases[m]? =some c'->NoWays (Wv Gp (w.at d) (L+ds.length)) (A.setIfInBounds i ph) c':=by
    intro m c' hm W;obtain⟨Ua,VH,rfl⟩:=Ig.recvs c' (EH W);have ny:c≠Ua:=λec=>rW Ig hk m _ hm W (by rw[ec];rfl)
    obtain⟨YW,aac,Tc⟩:=Cd.chans i s Ua hj ⟨m,VH,W⟩;refine ways_recv_none Tc (partners_nil λx y hy=>?_);rcases getElem?_stand A i x y hy with ⟨_,rfl⟩|⟨_,H⟩
    .exact offersAt_ph _ _
    .by_cases Y:x=h
     .subst Y
      rw[ha]at H;obtain rfl:=Option.some.inj H;rw[offersAt_parked_send,af ny]
     .exact Cd.noSend Y H _
   have td:=crowd_sel_recv_meets (sl:=u) hi (WM _ Cd.keep) hk ho Eu (Ne.symm Z) ha hp;have yx:(Inb i).isSome:=by rw[hj];rfl
   refine⟨1,_,_,Jc (o.trans td),_,A,f,d,u,q,ds,D,T,_,_,_,_,_,by rw[rM G zp G1],rfl,by simp,rfl,?_,?_,SR,λx hx hxj=>?_,hL,yy,Cd,qM C.past r (λop JP b hb=>⟨(hr op JP b hb).1,yx,(hr op JP b hb).2⟩) (λ_=>hd T) hl,λx=>?_,wX⟩
   .rw[ku Z,Db JU,finishComm_send]
   .rw[Db (by simpa using J),finishComm_served]
   .rw[ku (λz=>hxj z.symm),ku (λz=>hx z.symm)]
   .by_cases ex:x=i
    .subst ex;exact hd T
    .exact Deaf_other T (λz=>ex z.symm) _ r
  .obtain⟨p,ops,U,E,O,td,r,kI,GQ,hqo,Cc,C',Ob,hle,kU⟩:=Cd.by (sl:=u) G hB (by omega) yy hi Ql hg (λgx m S=>by rw[ha]at S;obtain rfl:=Option.some.inj S;exact again_send_open (Vq m))
    (λs' f JL X gx c' S W=>by
      rw[ha]at S;obtain rfl:=Option.some.inj S;rw[offersAt_parked_send,af];intro ec;have Vl:i=j:=C.inj i j s' s c JL hj (ec▸W) ⟨kk,z,hk⟩;subst Vl;rw[hj]at JL;obtain rfl:=Option.some.inj JL;exact ej ⟨rfl,f,X⟩)
   have uQ:0<U j:=by
    by_cases Vl:j=i
    .subst Vl
     rcases Nat.eq_zero_or_pos (U j)with h0|h0
     .obtain⟨f,X⟩:=Cc s hj h0
      exact absurd ⟨rfl,f,X⟩ ej
     .exact h0
    .rw[hqo j Vl];exact hqj
   obtain⟨N,m',R,h1,h2⟩:=ih (sumTo p.size U) (by rw[kI];omega) p _ U u d E O rfl (by rw[kI];exact J) (by rw[GQ];exact ha) uQ (by omega) Ob (by rw[Deaf_other T Ql _ r];exact wX) C';exact⟨N+1,m',R,by simp only[runNT,o,td];exact h1,by rw[<-kI];exact h2⟩
theorem Me(G:GK K Shun Gp)(hB:Gp.st.block<B)(pO:nb<=9)(S:j≠h)(hj:Inb j=some s)(hk:s.cases[kk]? =some (rcase c z))(hc:w.heap[c]? =some (.chan 0 #[] false k k false))(sD:a.status=.running)(hsend:∀d m,K (w.at d)->stepG P (h==0) a (Wv Gp (w.at d) m)=.comm a₂ #[scase c v z'] true .send (Wv Gp (w.at d) m) es)(pQ:∀e∈es,wQ Shun (nK St (λg=>(Inb g).isSome)) B h e/\e.loc≠.mark .disable/\e.loc≠.mark .enable)(A:jH)(T:Trace)(q:cm)(sl:rq)(Y:Nat)(ds:aP)(D:cm)(aap:j<A.size)(ha:A[h]? =some a)(hL:L+ds.length<=nb)(yy:∀i,i∈ds->D i<=2)(wX:Deaf T h=0)(C:C3 P K Shun St B Inb Gp h ds D T A (Wv Gp (w.at Y) (L+ds.length)) q):
 ∃N m' R,runNT P N (crowd A (Wv Gp (w.at Y) (L+ds.length)) sl) T=(.next m',R)/\UI P K Shun St B Inb Gp L nb h j a₂ s c kk k A.size v w m' R:=by
 obtain⟨N,b,T3,d,Q9,Z,l,J,f,u,e1,e2,e3,e4,e5,e6,o,e8⟩:=mo G hB pO sD _ A T q sl Y ds D rfl ha hL yy C;have zp:K (w.at d):=(jz G).1 o.keep;have G1:(w.at d).heap[c]? =some (.chan 0 #[] false k k false):=hc;have Eu:(Wv Gp (w.at d) (L+f.length)).heap[c]? =some (.chan 0 #[] false k k false):=(eE G zp _ G1).trans G1;have JU:h<b.size:=(cH.1 e4).1;have Ox:j∉f:=λe=>by rw[(o.dep j e).2.2.1]at hj;cases hj
 have H:j<b.size:=by omega
 have Ij:b[j]? =some b[j]:=hU H;have Ig:=o.wf j s hj;have hS:Sits P (j==0) K (St j) B s (J j) b[j]:=by have:=o.idle j _ S Ox Ij;rwa[hj]at this
 have hdT:Deaf l h=0:=e8.trans wX;have Oi:P3 Shun St (λg=>(Inb g).isSome) B h (l++MemOp.ofEvents h a.frame.fn a.frame.place es):=Aa o.past (λe he=>(pQ e he).1) (by rw[o.Af];simp);have OC:Deaf (l++MemOp.ofEvents h a.frame.fn a.frame.place es) h=Deaf l h:=by rw[Deaf_own];exact deafBehind_still (λe he=>(pQ e he).2) _
 have X:∀x,Deaf (l++MemOp.ofEvents h a.frame.fn a.frame.place es) x=Deaf l x:=λx=>by
  by_cases ex:x=h
  .subst ex;exact OC
  .exact Deaf_other l (λz=>ex z.symm) _ fD
 have SB:∀(x:Nat)(y:aW),x≠j->(b.setIfInBounds h ph)[x]? =some y->offersAt y c false=[]:=by
  intro x y r W;rcases getElem?_stand b h x y W with ⟨_,rfl⟩|⟨hx,Vd⟩
  .exact offersAt_ph _ _
  .exact o.NS hx Vd λs' JL wo=>r (o.inj x j s' s c JL hj wo ⟨kk,z,hk⟩)
 rcases hS with ⟨nn,Iy,hq,hG⟩|⟨Cc,aaB,Az,W9,J1⟩
 .have hjr:b[j].status=.running:=(Go.Conc.Sits.status o.keep (.inl ⟨nn,Iy,hq,hG⟩)).elim (·.1) λx=>by omega
  have hp:partners (b.setIfInBounds h ph) c false=[]:=partners_nil λx y W=>by
   by_cases r:x=j
   .subst r
    rw[stand_get S Ij]at W;obtain rfl:=Option.some.inj W;exact offersAt_of_not_blocked (by rw[hjr];simp) _ _
   .exact SB x y r W
  have hw:∀cc∈#[scase c v z'],NoWays (Wv Gp (w.at d) (L+f.length)) (b.setIfInBounds h ph) cc:=by
   intro cc uT;simp only[rK,ak,bB,or_false]at uT;subst uT;exact ways_send_none Eu (az _) hp
  have td:=crowd_waits (sl:=Z) e4 (hsend d _ zp) hw
  have C':C3 P K Shun St B Inb Gp h f u (l++MemOp.ofEvents h a.frame.fn a.frame.place es) (b.setIfInBounds h (parked a₂ #[scase c v z'] .send)) (Wv Gp (w.at d) (L+f.length)) J:=by
   refine⟨λy gy W hyd Z2=>?_,λy W=>?_,o.nd,o.chans,o.wf,o.inj,λx hx=>by rw[X];exact o.above x (by simpa using hx),o.low,o.Af,o.ss,Oi,o.keep⟩
   .rw[ku (λe=>W e.symm)]at Z2
    have:=o.idle y gy W hyd Z2;cases e:Inb y with
    |none=>rw[e]at this;exact⟨this.1,by rw[X];exact this.2⟩
    |some s'=>rw[e]at this;exact this
   .obtain⟨h1,h2,h3,g,h4,h5,h6⟩:=o.dep y W
    exact⟨h1,h2,h3,g,by rw[ku (λe=>h1 e.symm)];exact h4,h5,by rw[X];exact h6⟩
  obtain⟨N',m',R,h1,h2⟩:=wx (v:=v) (z':=z') (a₂:=a₂) G hB pO S hj hk hc _ _ _ J Z d f u rfl (by simpa using H) (Db JU) (by omega) e5 e6 (by rw[X];exact hdT) C';exact⟨(N+1)+N',m',R,runNT_then (lO e1 (e2.trans td)) h1,by rw[<-e3];simpa using h2⟩
 .have SU:b[j]? =some (parked Az s.cases s.shape):=by rw[Ij,W9]
  have hp:partners (b.setIfInBounds h ph) c false=[(j,kk)]:=by
   rw[partners_one (stand_get S SU) λx y r W=>SB x y r W,offersAt_parked_at hk (rW Ig hk)]
   rfl
  have td:=crowd_send_meets_sel (sl:=Z) e4 (hsend d _ zp) Eu S SU hk hp;refine⟨N+1,_,_,lO e1 (e2.trans td),_,b,Az,d,Z,J,f,u,l,_,_,_,_,_,by rw[rM G zp G1],rfl,by simp[e3],e3,?_,?_,J1.2.2.2.2.1,λx hx r=>?_,e5,e6,o,Oi,X,hdT⟩
  .exact Db (by simpa using JU)
  .rw[ku (λz=>S z.symm),Db H,finishComm_served]
  .rw[ku (λz=>hx z.symm),ku (λz=>r z.symm)]
structure UO(P:aI)(K:cF)(Shun:dr)(St:Nat->Loc->Prop)(Inb:Nat->Option Seat)(Gp:qE)(h n j c kk:Nat)(s:Seat)(v:ay)(a a₂:aW)(w:aj):Prop where
 kc:∀w k,K w->K (w.setChan c 0 #[] false k k false)
 jh:j≠h
 jn:j<n
 hj:Inb j=some s
 hk:∃z,s.cases[kk]? =some (rcase c z)
 run:a.status=.running
 send:∃z' es,(∀d m,K (w.at d)->stepG P (h==0) a (Wv Gp (w.at d) m)=.comm a₂ #[scase c v z'] true .send (Wv Gp (w.at d) m) es)/\∀e∈es,wQ Shun (nK St (λg=>(Inb g).isSome)) w.heap.size h e/\e.loc≠.mark .disable/\e.loc≠.mark .enable
 ch:∃k,w.heap[c]? =some (.chan 0 #[] false k k false)
theorem fG.yG(G:GK K Shun Gp)(pO:nb<=9)(H:UO P K Shun St Inb Gp h n j c kk s v a a₂ w){sh:Seat}(Ig:sh.Wf)(OP:∀l,A5 l->l.isMemory=true/\¬Shun l)(Oa:Sits P (h==0) K A5 w.heap.size sh nh (Go.Conc.served a₂ undef))(gI:∀b,sh.has b->∃f,w.heap[b]? =some (.chan 0 #[] false f f false))(yA:∀i s' b,i≠h->i≠j->Inb i=some s'->sh.has b->¬s'.has b)(next:∀k r,w.heap[c]? =some (.chan 0 #[] false k k false)->s.home r->Q w->fG P Post K Q' Shun (upd St h A5) (upd (upd Inb h (some sh)) j none) Gp L nb j n 0 (Go.Conc.served r (commResult s.cases s.shape kk v true)) (w.setChan c 0 #[] false (k+1) (k+1) false))(hQ:∀k,w.heap[c]? =some (.chan 0 #[] false k k false)->Q w->Q' (w.setChan c 0 #[] false (k+1) (k+1) false)):fG P Post K Q Shun St Inb Gp L nb h n 0 a w:=by
 intro Hz A T q sl ds D kI ha hL yy hq hd C;obtain⟨k,hc⟩:=H.ch;obtain⟨z,hk⟩:=H.hk;obtain⟨z',es,hsend,pQ⟩:=H.send;have Y:=H.jh;have hj:=H.hj;have hB:Gp.st.block<w.heap.size:=(G.row _ ((jz G).1 C.keep)).1.lt;obtain⟨N,m',t',e1,p,yE,r,d,Ll,U,E,O,y,o,fh,ph,fj,pj,rfl,rfl,m1,m2,m3,m4,m5,m6,m7,m8,S,p0,J5,Vo⟩:=Me (v:=v) (z':=z') G hB pO Y hj hk hc H.run hsend pQ A T q sl Hz ds D (by rw[kI];exact H.jn) ha hL yy hd C;refine Goal.back e1 ?_;have zp:K (w.at d):=(jz G).1 S.keep;have G1:(w.at d).heap[c]? =some (.chan 0 #[] false k k false):=hc;have Qd:s.has c:=⟨kk,z,hk⟩;have Tz:∀x,Deaf (y++(o++met h j fh ph fj pj c k 0)) x=Deaf y x:=λx=>by rw[<-ry,Deaf_quiet (met_quiet h j fh ph fj pj c k 0 x),J5]
 have X:∀x,x≠h->x≠j->upd (upd Inb h (some sh)) j none x=Inb x:=λx h1 h2=>by rw[upd_ne _ _ h2,upd_ne _ _ h1]
 have u:upd (upd Inb h (some sh)) j none h=some sh:=by rw[upd_ne _ _ (λe=>Y e.symm),upd_same]
 have Z:∀x,x≠h->upd St h A5 x=St x:=λx h1=>upd_ne _ _ h1
 have uT:∀b:Nat,(∃cap f:Nat,(w.at d).heap[b]? =some (Obj.chan cap #[] false f f false))->∃cap f:Nat,(Wv Gp ((w.at d).setChan c 0 #[] false (k+1) (k+1) false) (L+E.length)).heap[b]? =some (Obj.chan cap #[] false f f false):=λb ⟨cap,f,m⟩=>by
  have Ey:K ((w.at d).setChan c 0 #[] false (k+1) (k+1) false):=H.kc _ _ zp
  by_cases e:c=b
  .subst e
   have:=heap_setChan_self (w.at d) G1 0 #[] false (k+1) (k+1) false;exact⟨0,k+1,(eE G Ey _ this).trans this⟩
  .have:((w.at d).setChan c 0 #[] false (k+1) (k+1) false).heap[b]? =some (.chan cap #[] false f f false):=by rw[heap_setChan_ne _ _ _ _ _ _ _ e];exact m
   exact⟨cap,f,(eE G Ey _ this).trans this⟩
 have pp:=FW (uo:=upd St h A5) (p7:=λg=>(upd (upd Inb h (some sh)) j none g).isSome) p0 (λg l J hl=>S.ss g l J hl) (λg J Ij=>by
  have GQ:g≠h:=λe=>by rw[e,S.Af]at J;cases J
  refine⟨by show(upd (upd Inb h (some sh)) j none g).isSome;rw[X g GQ Ij];exact J,λl hl=>by rw[Z g GQ];exact hl⟩)
  (λg J=>by
    by_cases e:g=h
    .subst e;exact .inr ⟨rfl,λl hl=>OP l (by rw[upd_same]at hl;exact hl)⟩
    .have e2:g≠j:=λz=>by subst z;rw[upd_same]at J;cases J
     refine .inl ⟨by rw[X g e e2]at J;exact J,e2,λl hl=>by rw[Z g e]at hl;exact hl⟩) (by rw[J5];exact Vo) (by show(Inb j).isSome;rw[hj];rfl) fh ph fj pj k (S.low j s c hj Qd)
 rw[ry]at pp
 have C':C3 P K Shun (upd St h A5) w.heap.size (upd (upd Inb h (some sh)) j none) Gp j E O (y++(o++met h j fh ph fj pj c k 0)) p (Wv Gp ((w.at d).setChan c 0 #[] false (k+1) (k+1) false) (L+E.length)) (upd U h nh):=by
  refine S.passed m6 X (upd_same ..) (λx h1 h2=>Z x h1) (λx _=>Iff.rfl) Y (λe=>by rw[(S.dep j e).2.2.1]at hj;cases hj) S.nd (λ_ _=>rfl) (λx hx=>upd_ne _ _ hx) Tz (λx hx=>by omega) (.inl ⟨λe=>(S.dep h e).1 rfl,_,m3,?_⟩) (λi s' b e W=>?_) (λs' e=>?_) (λi s1 s2 b e h1 h2 e2 x1 x2=>?_) (λs' b e W=>?_) (λl _ hl=>?_) pp ((jz G).2 (H.kc _ _ zp))
  .rw[u,upd_same,upd_same];exact Oa
  .by_cases e1:i=h
   .subst e1
    rw[u]at e;obtain rfl:=Option.some.inj e;obtain⟨f,m⟩:=gI b W;exact uT b ⟨0,f,m⟩
   .have e2:i≠j:=λz=>by rw[z,upd_same]at e;cases e
    rw[X i e1 e2]at e;obtain⟨cap,f,m⟩:=S.chans i s' b e W;exact uT b ⟨cap,f,nW G zp _ m⟩
  .rw[u]at e;obtain rfl:=Option.some.inj e;exact Ig
  .rw[u]at e;obtain rfl:=Option.some.inj e;exact yA i s2 b h1 h2 e2 x1 x2
  .rw[u]at e;obtain rfl:=Option.some.inj e
   obtain⟨f,m⟩:=gI b W;exact(cH.1 m).1
  .rw[upd_same]at hl;exact(OP l hl).2
 have wj:=next k r hc m5 hq d p _ (upd U h nh) Ll E O (m1.trans kI) m4 m7 m8 (hQ k hc hq) (by rw[Tz];exact S.past.hears j (by show(Inb j).isSome;rw[hj];rfl)) (by rw[show(w.setChan c 0 #[] false (k+1) (k+1) false).heap.size=w.heap.size from by simp[World.setChan]];exact C');exact wj
theorem fG.He(G:GK K Shun Gp)(pO:nb<=9)(H:UO P K Shun St Inb Gp h n j c kk s v a a₂ w)(h0:0<h)(OB:DP P K Gp nh 0 (Go.Conc.served a₂ undef))(next:∀k f,w.heap[c]? =some (.chan 0 #[] false k k false)->s.home f->Q w->fG P Post K Q' Shun St (upd Inb j none) Gp L nb j n 0 (Go.Conc.served f (commResult s.cases s.shape kk v true)) (w.setChan c 0 #[] false (k+1) (k+1) false))(hQ:∀k,w.heap[c]? =some (.chan 0 #[] false k k false)->Q w->Q' (w.setChan c 0 #[] false (k+1) (k+1) false)):fG P Post K Q Shun St Inb Gp (L+1) nb h n 0 a w:=by
 intro Hz A T q sl ds D kI ha hL yy hq hd C;obtain⟨k,hc⟩:=H.ch;obtain⟨z,hk⟩:=H.hk;obtain⟨z',es,hsend,pQ⟩:=H.send;have W:=H.jh;have hj:=H.hj;have hB:Gp.st.block<w.heap.size:=(G.row _ ((jz G).1 C.keep)).1.lt;obtain⟨N,m',t',e1,p,yE,f,d,Ll,U,E,O,u,b,fh,ph,fj,pj,rfl,rfl,m1,m2,m3,m4,m5,m6,m7,m8,y,p0,J5,Vo⟩:=Me (v:=v) (z':=z') G hB pO W hj hk hc H.run hsend pQ A T q sl Hz ds D (by rw[kI];exact H.jn) ha hL yy hd C;refine Goal.back e1 ?_;have X:K (w.at d):=(jz G).1 y.keep;have G1:(w.at d).heap[c]? =some (.chan 0 #[] false k k false):=hc;have Qd:s.has c:=⟨kk,z,hk⟩;have Y:∀x,Deaf (u++(b++met h j fh ph fj pj c k 0)) x=Deaf u x:=λx=>by rw[<-ry,Deaf_quiet (met_quiet h j fh ph fj pj c k 0 x),J5]
 have o:∀x,x≠j->upd Inb j none x=Inb x:=λx h2=>upd_ne _ _ h2
 have r:upd Inb j none h=none:=by rw[o h (λe=>W e.symm)];exact y.Af
 have m:L+(h::E).length=L+1+E.length:=by simp;omega
 have pp:=FW (uo:=St) (p7:=λg=>(upd Inb j none g).isSome) p0 (λg l J hl=>y.ss g l J hl) (λg J Ij=>⟨by show(upd Inb j none g).isSome;rw[o g Ij];exact J,λl hl=>hl⟩)
  (λg J=>by
    have e2:g≠j:=λz=>by subst z;rw[upd_same]at J;cases J
    exact .inl ⟨by rw[o g e2]at J;exact J,e2,λl hl=>hl⟩) (by rw[J5];exact Vo) (by show(Inb j).isSome;rw[hj];rfl) fh ph fj pj k (y.low j s c hj Qd)
 rw[ry]at pp
 have C':C3 P K Shun St w.heap.size (upd Inb j none) Gp j (h::E) (upd O h 0) (u++(b++met h j fh ph fj pj c k 0)) p (Wv Gp ((w.at d).setChan c 0 #[] false (k+1) (k+1) false) (L+(h::E).length)) (upd U h nh):=by
  rw[m]
  refine y.passed m6 (λx _ h2=>o x h2) (upd_same ..) (λ_ _ _=>rfl) (λx Z=>by simp[Z]) W (λe=>by rw[(y.dep j e).2.2.1]at hj;cases hj) (List.nodup_cons.2 ⟨λe=>(y.dep h e).1 rfl,y.nd⟩) (λx Z=>upd_ne _ _ Z) (λx Z=>upd_ne _ _ Z) Y (λx Z=>by omega)
   (.inr ⟨by simp,h0,r,_,m3,by rw[upd_same,upd_same];exact OB,by rw[Y,upd_same];exact Vo⟩) (λi s' c' e wo=>?_) (λs' e=>by rw[r]at e;cases e) (λi s1 s2 c' e=>by rw[r]at e;cases e) (λs' c' e=>by rw[r]at e;cases e) (λl hs=>by rw[r]at hs;cases hs) pp ((jz G).2 (H.kc _ _ X))
  have e2:i≠j:=λz=>by rw[z,upd_same]at e;cases e
  rw[o i e2]at e;obtain⟨cap,k',nA⟩:=y.chans i s' c' e wo;have GP:=nW G X _ nA;have Ey:K ((w.at d).setChan c 0 #[] false (k+1) (k+1) false):=H.kc _ _ X
  by_cases e:c=c'
  .subst e
   have:=heap_setChan_self (w.at d) G1 0 #[] false (k+1) (k+1) false;exact⟨0,k+1,(eE G Ey _ this).trans this⟩
  .have:((w.at d).setChan c 0 #[] false (k+1) (k+1) false).heap[c']? =some (.chan cap #[] false k' k' false):=by rw[heap_setChan_ne _ _ _ _ _ _ _ e];exact GP
   exact⟨cap,k',(eE G Ey _ this).trans this⟩
 have S:=next k f hc m5 hq d p _ (upd U h nh) Ll (h::E) (upd O h 0) (m1.trans kI) m4 (by rw[m];exact m7) (λi hi=>by
  by_cases e:i=h
  .subst e;rw[upd_same];omega
  .rw[upd_ne _ _ e];exact m8 i (by simpa [e]using hi)) (hQ k hc hq) (by rw[Y];exact y.past.hears j (by show(Inb j).isSome;rw[hj];rfl)) (by rw[show(w.setChan c 0 #[] false (k+1) (k+1) false).heap.size=w.heap.size from by simp[World.setChan]];exact C')
 rw[m]at S;exact S
end
theorem Ft{z:Addr}(b:z.spot=none)(h:w.cell? z=some v):w.setCell z v=w:=by
 refine fB (λr=>?_) rfl rfl rfl rfl;rw[heap_set]
 by_cases e:z.block=r
 .subst e
  rw[ah rfl];unfold World.cell? at h;cases l:w.heap[z.block]? with
  |none=>rfl
  |some o=>
   rw[l]at h;cases o with
   |cells c el f=>
    simp only[b,Iu,tG,if_false]at h;simp only[fy,mH,b,Iu,tG,if_false]
    congr 2
    refine Array.ext_getElem? λi=>?_
    rw[zF]
    split
    .rename_i e;subst e;split
     .exact h.symm
     .rename_i d;rw[MR.2 (by omega)]
    .rfl
   |_=>rfl
 .rw[af e]
section
variable{P:aI}{K:cF}{Shun:dr}{B:Nat}{Gp:qE}
theorem fG.hire(G:GK K Shun Gp)(pO:nb<=9)(hs:a.status=.running){a' child:aW}(hgo:∀d m,K (w.at d)->stepG P (h==0) a (Wv Gp (w.at d) m)=.spawn a' child (Wv Gp (w.at d) m) es)(pQ:∀e∈es,wQ Shun (nK St (λg=>(Inb g).isSome)) w.heap.size h e/\e.loc≠.mark .disable/\e.loc≠.mark .enable){sh:Seat}(Ig:sh.Wf)(OP:∀l,A5 l->l.isMemory=true/\¬Shun l)(Oa:Sits P (h==0) K A5 w.heap.size sh nh a')(gI:∀r,sh.has r->∃Z,w.heap[r]? =some (.chan 0 #[] false Z Z false))(yA:∀i s' r,i≠h->Inb i=some s'->sh.has r->¬s'.has r)(hIn:Inb n=none)(next:fG P Post K Q Shun (upd St h A5) (upd Inb h (some sh)) Gp L nb n (n+1) 0 child w):fG P Post K Q Shun St Inb Gp L nb h n 0 a w:=by
 intro Hz A T q sl ds D kI ha hL yy hq hd C;have hB:Gp.st.block<w.heap.size:=(G.row _ ((jz G).1 C.keep)).1.lt;obtain⟨N,b,T3,d,Q9,Ll,f,Y,o,H,e1,e2,e3,e4,e5,e6,u,e8⟩:=mo G hB pO hs _ A T q sl Hz ds D rfl ha hL yy C;have zp:K (w.at d):=(jz G).1 u.keep;have W:b.size=n:=e3.trans kI;have kU:h<b.size:=(cH.1 e4).1;have Vh:n≠h:=by omega
 have td:=runT_crowd_spawn (P:=P) (sl:=Ll) (w:=Wv Gp (w.at d) (L+o.length)) (w':=Wv Gp (w.at d) (L+o.length)) e4 (hgo d _ zp)
 have Sv:((MemOp.ofEvents h a.frame.fn a.frame.place es).push {g:=h,fn:=a.frame.fn,pos:=a.frame.place,act:=.go b.size}|>.push {g:=b.size,fn:=child.frame.fn,pos:=a.frame.place,act:=.start})=
  MemOp.ofEvents h a.frame.fn a.frame.place es++#[{g:=h,fn:=a.frame.fn,pos:=a.frame.place,act:=.go b.size},{g:=b.size,fn:=child.frame.fn,pos:=a.frame.place,act:=.start}]:=by
  apply Array.ext';simp
 rw[Sv]at td;have OC:Deaf (f++MemOp.ofEvents h a.frame.fn a.frame.place es) h=Deaf f h:=by rw[Deaf_own];exact deafBehind_still (λe he=>(pQ e he).2) _
 have Yx:∀x,Deaf (f++MemOp.ofEvents h a.frame.fn a.frame.place es) x=Deaf f x:=λx=>by
  by_cases ex:x=h
  .subst ex;exact OC
  .exact Deaf_other f (λz=>ex z.symm) _ fD
 have Oi:P3 Shun St (λg=>(Inb g).isSome) w.heap.size h (f++MemOp.ofEvents h a.frame.fn a.frame.place es):=Aa u.past (λe he=>(pQ e he).1) (by rw[u.Af];simp);have J:∀x,x≠h->upd Inb h (some sh) x=Inb x:=λx S=>upd_ne _ _ S
 have Yc:∀x,x≠h->upd St h A5 x=St x:=λx S=>upd_ne _ _ S
 have pp:=Ru (c:=b.size) (uo:=upd St h A5) (p7:=λg=>(upd Inb h (some sh) g).isSome) Oi (λg l y hl=>u.ss g l y hl) (λg y=>by
  have GQ:g≠h:=λe=>by rw[e,u.Af]at y;cases y
  refine⟨by show(upd Inb h (some sh) g).isSome;rw[J g GQ];exact y,λl hl=>by rw[Yc g GQ];exact hl⟩)
  (λg y=>by
    by_cases e:g=h
    .subst e;exact .inr ⟨rfl,λl hl=>OP l (by rw[upd_same]at hl;exact hl)⟩
    .rw[J g e]at y
     exact .inl ⟨y,λz=>(by rw[z,W,hIn]at y;cases y),λl hl=>by rw[Yc g e]at hl;exact hl⟩) (by rw[Yx,e8];exact hd) (by rw[Yx];exact u.above _ (az _)) a.frame.fn a.frame.place child.frame.fn a.frame.place
 have Ih:=yF (h:=h) (c:=b.size) a.frame.fn a.frame.place child.frame.fn a.frame.place;have Tz:∀x,Deaf (f++(MemOp.ofEvents h a.frame.fn a.frame.place es++#[{g:=h,fn:=a.frame.fn,pos:=a.frame.place,act:=.go b.size},{g:=b.size,fn:=child.frame.fn,pos:=a.frame.place,act:=.start}])) x=Deaf f x:=λx=>by rw[<-ry,Deaf_quiet (Ih x),Yx]
 rw[ry]at pp;refine Goal.back (lO e1 (e2.trans td)) ?_;have Sk:(((b.setIfInBounds h a').push child))[h]? =some a':=by rw[Array.getElem?_push_lt (by simpa using kU)];simp
 have C':C3 P K Shun (upd St h A5) w.heap.size (upd Inb h (some sh)) Gp n o H (f++(MemOp.ofEvents h a.frame.fn a.frame.place es++#[{g:=h,fn:=a.frame.fn,pos:=a.frame.place,act:=.go b.size},{g:=b.size,fn:=child.frame.fn,pos:=a.frame.place,act:=.start}])) ((b.setIfInBounds h a').push child) (Wv Gp (w.at d) (L+o.length)) (upd Y h nh):=by
  refine u.passed (λx S h2=>?_) (λx S _=>J x S) (by rw[J n Vh];exact hIn) (λx S _=>Yc x S) (λx _=>Iff.rfl) Vh (λe=>?_) u.nd (λ_ _=>rfl) (λx hx=>upd_ne _ _ hx) Tz (λx hx=>by simp at hx;omega) (.inl ⟨λe=>(u.dep h e).1 rfl,_,Sk,?_⟩) (λi s' r e X=>?_) (λs' e=>?_) (λi s1 s2 r e S h2 e2 x1 x2=>?_) (λs' r e X=>?_) (λl _ hl=>?_) (by rw[<-W];exact pp) u.keep
  .rw[EF]
   split
   .rename_i hx;simp at hx;omega
   .rw[ku (λz=>S z.symm)]
  .obtain⟨_,_,_,g,y,_⟩:=u.dep n e
   have:=(cH.1 y).1;omega
  .rw[upd_same,upd_same,upd_same];exact Oa
  .by_cases e1:i=h
   .subst e1
    rw[upd_same]at e;obtain rfl:=Option.some.inj e;obtain⟨Z,nA⟩:=gI r X;have GP:(w.at d).heap[r]? =some (.chan 0 #[] false Z Z false):=nA;exact⟨0,Z,(eE G zp _ GP).trans GP⟩
   .rw[J i e1]at e
    exact u.chans i s' r e X
  .rw[upd_same]at e;obtain rfl:=Option.some.inj e;exact Ig
  .rw[upd_same]at e;obtain rfl:=Option.some.inj e;exact yA i s2 r S e2 x1 x2
  .rw[upd_same]at e;obtain rfl:=Option.some.inj e
   obtain⟨Z,nA⟩:=gI r X;exact(cH.1 nA).1
  .rw[upd_same]at hl;exact(OP l hl).2
 exact next d _ _ (upd Y h nh) Ll o H (by simp[W]) (by rw[<-W,EF];simp) e5 e6 hq (by rw[Tz];exact u.above n (by omega)) C'
theorem fG.assume(G:GK K Shun Gp)(H:K w->Q w->fG P Post K Q Shun St Inb Gp L nb h n dl g w):fG P Post K Q Shun St Inb Gp L nb h n dl g w:=
 λd A T q sl ds D m l i f b e C=>H (G.at' (w.at d) w.drawn ((jz G).1 C.keep)) b d A T q sl ds D m l i f b e C
theorem fG.less(b:GK K' Shun Gp)(f:∀w,K' w->K w)(e:K' w)(H:fG P Post K' Q Shun St Inb Gp L nb h n dl g w):fG P Post K Q Shun St Inb Gp L nb h n dl g w:=
 λd A T q sl ds D u r o m l i C=>H d A T q sl ds D u r o m l i (C.less f ((jz b).2 (b.at' _ _ e)))
theorem fG.add(G:GK K Shun Gp)(x:nb<=9)(hs:a.status=.running){g':Nat->Goroutine}(r:∀d m,m<=nb->K (w.at d)->stepG P (h==0) a (Wv Gp (w.at d) m)=.go (g' m) (Wv Gp (w.at d) (m+1)) es)(y:∀e∈es,wQ Shun (nK St (λg=>(Inb g).isSome)) w.heap.size h e)(next:∀m,m<=nb->fG P Post K Q Shun St Inb Gp (L+1) (nb+1) h n (deafBehind dl es) (g' m) w):fG P Post K Q Shun St Inb Gp L nb h n dl a w:=by
 intro l A T q sl ds D hn ha hL u hq hd C;have hB:Gp.st.block<w.heap.size:=(G.row _ ((jz G).1 C.keep)).1.lt;obtain⟨N,p,Y,d,o,f,R,U,E,O,e1,e2,e3,X,W,e6,J,e8⟩:=mo G hB x hs _ A T q sl l ds D rfl ha hL u C;have b:K (w.at d):=(jz G).1 J.keep;have hl:L+1+E.length=L+E.length+1:=by omega
 obtain⟨C',H⟩:=J.own (a':=g' (L+E.length)) (w':=Wv Gp (w.at d) (L+1+E.length)) X ((jz G).2 b) (λi s c Z hc=>by
  obtain⟨cap,k,hk⟩:=J.chans i s c Z hc;have S:=nW G b _ hk;rw[eE G b _ S,eE G b _ S]) y
 refine Goal.back (lO e1 (e2.trans (runT_crowd_go (sl:=f) X (r d _ W b)))) ?_;rw[<-hl];exact next _ W d _ _ _ f E O (by simp[e3,hn]) H (by omega) e6 hq (by rw[Deaf_own,e8,hd]) C'
theorem fG.Jt{Y:cF}(G:GK K Shun Gp)(o:Gp.st.spot=none)(X:K w)(W:Q w)(y:jd .u64 Gp.st w 0)(H:fG P Post K Q Shun St (λ_=>none) Gp 0 nb 0 n 0 g w):nQ P Post Y Shun n g w:=by
 intro d A T q sl m r C;have u:Wv Gp (w.at d) (0+([]:aP).length)=w.at d:=Ft o y.1;have S:Deaf T 0=0:=C.past.hears 0 rfl
 have C':C3 P K Shun St w.heap.size (λ_=>none) Gp 0 [] (λ_=>0) T A (Wv Gp (w.at d) (0+([]:aP).length)) q:=by
  rw[u];exact⟨λi g f _ r=>C.idle i g f r,λi f=>(by cases f),List.nodup_nil,λi s c e=>(by cases e),λi s e=>(by cases e),λi i' s Z c e=>(by cases e),C.above,λi s c e=>(by cases e),rfl,λi l b=>(by cases b),⟨C.past.clean,λi x J N=>(C.past.known i x J N).imp id λz=>z.2.1.elim,λ_ _ _ _ _ b=>(by cases b),λ_ b=>(by cases b),C.past.seen⟩,G.at' _ _ X⟩
 have:=H d A T q sl [] (λ_=>0) m r (by simp) (λi f=>by cases f) W S C';rw[u]at this;exact this
end
section
variable(P:aI)(K:cF)(Shun:dr)(B:Nat)(Gp:qE)(Anchor:kr)
def QJ(F:kr)(k:Nat)(M:Nat->Goroutine->Prop)(t:Nat)(g:aW):Prop:=
 (g.status=.running/\∃g',(∀w,K w->∃es,stepG P true g w=.go g' w es/\∀e∈es,wQ Shun (λ_=>False) B 0 e/\e.loc≠.mark .disable/\e.loc≠.mark .enable)/\M t g')\/
 (t=0/\g.status=.running/\∃g',(∀w,K w->stepG P true g w=.go g' w #[uN .disable])/\M 1 g')\/
 (t=1/\g.status=.running/\(∀m,0<m->m<=k->∃g',(∀w,K w->jd .u64 Gp.st w (gv m 0)->stepG P true g w=.go g' w #[tT Gp.st])/\M (100+m) g')/\∃g',(∀w,K w->jd .u64 Gp.st w (gv 0 0)->stepG P true g w=.go g' w #[tT Gp.st])/\M 6 g')\/
 (t=5/\g.status=.running/\∃g',(∀w,K w->jd .u64 Gp.st w (gv 0 0)->stepG P true g w=.go g' w #[tT Gp.st])/\M 6 g')\/
 (∃m,0<m/\m<=k/\t=100+m/\g.status=.running/\(∃g',(∀w,K w->jd .u64 Gp.st w (gv m 0)->stepG P true g w=.go g' (w.setCell Gp.st (.int .u64 (gv m 1))) #[tT Gp.st,Ej Gp.st])/\M 3 g')/\∀m',m'<m->∃g',(∀w,K w->jd .u64 Gp.st w (gv m' 0)->stepG P true g w=.go g' w #[tT Gp.st])/\F g')\/
 (t=3/\g.status=.running/\∃g',(∀w,K w->stepG P true g w=.go g' w #[uN (.write Gp.se)])/\M 4 g')\/
 (t=4/\g.status=.running/\g.offers=none/\∃g',(∀w,K w->jd .u32 Gp.se w 1->stepG P true g w=.go g' (w.setCell Gp.se (.int .u32 0)) (semEvents Gp.se))/\(∀w,K w->jd .u32 Gp.se w 0->stepG P true g w=.go {g with status:=.blocked} w #[])/\M 5 g')\/
 (t=6/\g.status=.running/\∃g',(∀w,K w->stepG P true g w=.go g' w #[uN .enable])/\M 7 g')\/
 (t=7/\g.status=.running/\∃g',(∀w,K w->stepG P true g w=.go g' w #[uN (.acquire Gp.st)])/\M 8 g')
def KS(F:kr)(k:Nat):Nat->Nat->Goroutine->Prop
 |0,t,g=>t=8/\g.status=.running/\Anchor g
 |n+1,t,g=>(t=8/\g.status=.running/\Anchor g)\/QJ P K Shun B Gp F k (KS F k n) t g
def WS:Nat->Nat->Nat->Goroutine->Prop
 |0=>KS P K Shun B Gp Anchor (λ_=>False) 0
 |k+1=>KS P K Shun B Gp Anchor (λg=>∃n,WS k n 1 g) (k+1)
def WF(k:Nat)(g:aW):Prop:=∃k' n,k=k'+1/\WS P K Shun B Gp Anchor k' n 1 g
end
section
variable{P:aI}{K:cF}{Shun:dr}{B:Nat}{Gp:qE}{Anchor:kr}
theorem QJ.mono(y:∀g,F g->V g)(h:∀t g,M t g->M' t g)(x:QJ P K Shun B Gp F k M t g):QJ P K Shun B Gp V k M' t g:=by
 rcases x with ⟨a,g',b,c⟩|⟨a,b,g',c,d⟩|⟨a,b,c,g',d,e⟩|⟨a,b,g',c,d⟩|⟨m,a,b,c,d,⟨g',e,f⟩,f'⟩|⟨a,b,g',c,d⟩|⟨a,b,c,g',d,e,f⟩|⟨a,b,g',c,d⟩|⟨a,b,g',c,d⟩
 .exact .inl ⟨a,g',b,h _ _ c⟩
 .exact .inr (.inl ⟨a,b,g',c,h _ _ d⟩)
 .exact .inr (.inr (.inl ⟨a,b,λm G C=>by obtain⟨o,l,i⟩:=c m G C;exact⟨o,l,h _ _ i⟩,g',d,h _ _ e⟩))
 .exact .inr (.inr (.inr (.inl ⟨a,b,g',c,h _ _ d⟩)))
 .exact .inr (.inr (.inr (.inr (.inl ⟨m,a,b,c,d,⟨g',e,h _ _ f⟩,λr u=>by obtain⟨o,l,i⟩:=f' r u;exact⟨o,l,y _ i⟩⟩))))
 .exact .inr (.inr (.inr (.inr (.inr (.inl ⟨a,b,g',c,h _ _ d⟩)))))
 .exact .inr (.inr (.inr (.inr (.inr (.inr (.inl ⟨a,b,c,g',d,e,h _ _ f⟩))))))
 .exact .inr (.inr (.inr (.inr (.inr (.inr (.inr (.inl ⟨a,b,g',c,h _ _ d⟩)))))))
 .exact .inr (.inr (.inr (.inr (.inr (.inr (.inr (.inr ⟨a,b,g',c,h _ _ d⟩)))))))
theorem KS.up:∀(n m:Nat)(t:Nat)(g:aW),n<=m->KS P K Shun B Gp Anchor F k n t g->KS P K Shun B Gp Anchor F k m t g
 |0,0,_,_,_,x=>x
 |0,_+1,_,_,_,x=>.inl x
 |n+1,0,_,_,h,_=>absurd h (by omega)
 |n+1,m+1,_,_,h,x=>x.elim .inl λy=>.inr (y.mono (λ_ z=>z) λt g=>KS.up n m t g (by omega))
theorem WS.eq:WS P K Shun B Gp Anchor k=KS P K Shun B Gp Anchor (WF P K Shun B Gp Anchor k) k:=by
 cases k with
 |zero=>
  have:WF P K Shun B Gp Anchor 0=λ_=>False:=by funext g;simp[WF]
  rw[this];rfl
 |succ k=>
  have:WF P K Shun B Gp Anchor (k+1)=λg=>∃n,WS P K Shun B Gp Anchor k n 1 g:=by
   funext g
   refine propext ⟨fun⟨b,n,e,h⟩=>?_,fun⟨n,h⟩=>⟨k,n,rfl,h⟩⟩;obtain rfl:k=b:=by omega
   exact⟨n,h⟩
  rw[this];rfl
theorem WS.up(h:WS P K Shun B Gp Anchor k n t g)(m:Nat)(b:n<=m):WS P K Shun B Gp Anchor k m t g:=by rw[WS.eq]at h ⊢;exact KS.up n m t g b h
theorem WS.one(h:QJ P K Shun B Gp (WF P K Shun B Gp Anchor k) k (λt g=>WS P K Shun B Gp Anchor k n t g) t g):WS P K Shun B Gp Anchor k (n+1) t g:=by rw[WS.eq]at h ⊢;exact .inr h
theorem WS.inv(h:WS P K Shun B Gp Anchor k n t g):(t=8/\g.status=.running/\Anchor g)\/∃m,n=m+1/\QJ P K Shun B Gp (WF P K Shun B Gp Anchor k) k (λt g=>WS P K Shun B Gp Anchor k m t g) t g:=by
 rw[WS.eq]at h;cases n with
 |zero=>exact .inl h
 |succ m=>exact h.elim .inl λx=>.inr ⟨m,rfl,by rw[WS.eq];exact x⟩
theorem WS.PB(b:g.status=.running)(h:Anchor g):WS P K Shun B Gp Anchor k n 8 g:=by
 rw[WS.eq];cases n with
 |zero=>exact⟨rfl,b,h⟩
 |succ n=>exact .inl ⟨rfl,b,h⟩
theorem WS.running(h:WS P K Shun B Gp Anchor k n t g):g.status=.running:=by
 rcases h.inv with ⟨_,h,_⟩|⟨_,_,h⟩
 .exact h
 rcases h with ⟨h,_⟩|⟨_,h,_⟩|⟨_,h,_⟩|⟨_,h,_⟩|⟨_,_,_,_,h,_⟩|⟨_,h,_⟩|⟨_,h,_⟩|⟨_,h,_⟩|⟨_,h,_⟩<;>exact h
end
def H8(k a:Nat)(ds:aP)(D:cm)(s m:Int):Prop:=
 (((a<=1/\ds.length<=k)\/∃j,a=100+j/\0<j/\j<=k/\ds.length<=j)/\(∀i,i∈ds->D i<=2)/\s=gv ds.length 0/\m=0)\/
 ((a=3\/a=4)/\(∀i,i∈ds->D i<=2)/\0<ds.length/\s=gv ds.length 1/\m=0)\/
 ((a=3\/a=4)/\(∃i,ds=[i]/\(D i=3\/D i=4))/\s=gv 0 1/\m=0)\/
 ((a=3\/a=4)/\(∃i,ds=[i]/\D i=5)/\s=gv 0 0/\m=0)\/
 ((a=3\/a=4)/\ds=[]/\s=gv 0 0/\m=1)\/
 (5<=a/\a<=8/\ds=[]/\s=gv 0 0/\m=0)
section
variable{P:aI}{K:cF}{Shun:dr}{B:Nat}{Gp:qE}{Anchor:kr}
theorem C3.slip(C:C3 P K Shun St B Inb Gp h ds D T A w q){i:Nat}(sl:rq)(hi:A[i]? =some g)(W:i≠h)(X:i∉ds)(hn:Inb i=none)(d:g.status=.running):
 ∃p g' m U,runT P (crowd A w sl) i=(.next (crowd p w sl),m)/\(∀op∈m,op.g=i)/\p.size=A.size/\(∀y,A[h]? =some y->p[h]? =some (woken P g g' w y))/\C3 P K Shun St B Inb Gp h ds D (T++m) p w U/\sumTo A.size U<sumTo A.size q:=by
 have S:i<A.size:=(cH.1 hi).1;have hI:=C.idle i g W X hi;rw[hn]at hI;obtain⟨N,Y⟩:=hI;have Ii:(i==0)=false:=by simp;omega
 cases r:q i with
 |zero=>rw[r]at Y;rw[Y.1]at d;cases d
 |succ k=>
  rw[r]at Y;rcases Y with ⟨hf,_⟩|⟨_,g',es,hm,J,uQ⟩
  .rw[hf]at d;cases d
  have l:∀x,x≠i->x≠h->((A.map (woken P g g' w)).setIfInBounds i g')[x]? =A[x]? :=by
   intro x f Z;rw[ku (λe=>f e.symm),tF];cases e:A[x]? with
   |none=>rfl
   |some y=>simp[woken_of_again (P:=P) (x:=g) (x':=g') (C.fixed Z e)]
  have o:((A.map (woken P g g' w)).setIfInBounds i g')[i]? =some g':=Db (by simpa using S);have hD:∀x,x≠i->Deaf (T++MemOp.ofEvents i g.frame.fn g.frame.place es) x=Deaf T x:=λx f=>Deaf_other T (λz=>f z.symm) _ fD
  have hp:=qM (g:=i) C.past (u:=MemOp.ofEvents i g.frame.fn g.frame.place es) fD (λop G b hb=>by obtain⟨e,he,rfl⟩:=Go.Conc.mem_ofEvents G;rw[touch_mute (hm e he)]at hb;cases hb) (λhs=>by rw[hn]at hs;cases hs) (λop G=>by obtain⟨e,he,rfl⟩:=Go.Conc.mem_ofEvents G;exact low_mute (hm e he) B);refine⟨_,g',_,upd q i k,runT_crowd_go (sl:=sl) hi (by rw[Ii];exact J w),fD,by simp,λy H=>?_,⟨λx y f hd H=>?_,λx f=>?_,C.nd,C.chans,C.wf,C.inj,λj hj=>?_,C.low,C.Af,C.ss,hp,C.keep⟩,gN S r (az _)⟩
  .rw[ku W,tF,H];rfl
  .by_cases e:x=i
   .subst e
    rw[o]at H;obtain rfl:=Option.some.inj H;rw[hn,upd_same];exact⟨N,by rw[Deaf_own];exact uQ⟩
   .rw[l x e f]at H
    rw[upd_ne q k e];have:=C.idle x y f hd H;cases ei:Inb x with
    |none=>rw[ei]at this;exact⟨this.1,by rw[hD x e];exact this.2⟩
    |some s=>rw[ei]at this;exact this
  .have e:x≠i:=λz=>X (z▸f)
   obtain⟨h1,h2,h3,y,h4,h5,h6⟩:=C.dep x f;exact⟨h1,h2,h3,y,by rw[l x e h1];exact h4,by rw[upd_ne q k e];exact h5,by rw[hD x e];exact h6⟩
  .simp only[zD,Be]at hj
   rw[hD j (by omega)];exact C.above j hj
theorem Ke(e:Event)(x:wQ Shun (λ_=>False) B 0 e):wQ Shun (nK St (λg=>((λ_=>none:Nat->Option Seat) g).isSome)) B 0 e:=
 ⟨λy b=>⟨fun⟨g,d,_⟩=>(by cases d),(x.1 y b).2⟩,x.2⟩
theorem RZ(J:JK K Shun B Gp):∀(L k S:Nat)(A:jH)(w:aj)(sl:rq)(T:Trace)(q:cm)(a0:aW)(bl:Bool)(tm nm:Nat)(ds:aP)(D:cm)(s m:Int),
 sumTo A.size q=L->2*nm+(if bl then 0 else 1)=S->A[0]? =some (if bl then{a0 with status:=.blocked} else a0)->C3 P K Shun St B (λ_=>none) Gp 0 ds D T A w q->WS P K Shun B Gp Anchor k nm tm a0->
 (bl=true->tm=4/\m=0/\a0.offers=none)->ds.length<=9->H8 k tm ds D s m->jd .u64 Gp.st w s->jd .u32 Gp.se w m->Deaf T 0=dM tm->
 ∃N X R,runNT P N (crowd A w sl) T=(.next X,R)/\Joined P K Shun B Gp Anchor A.size X R:=by
 intro L
 induction L using Nat.strongRecOn with
 |_ L Ws=>
 intro k
 induction k using Nat.strongRecOn with
 |_ k ihk=>
 intro S
 induction S using Nat.strongRecOn with
 |_ S ihS=>
 intro A w sl T q a0 bl tm nm ds D s m hL hS h0 C hM L6 h9 Z l o jf;have Cb:=hM.running;have aam:0<A.size:=(cH.1 h0).1
 by_cases Ma:Anchor a0/\tm=8
 .obtain⟨hA,rfl⟩:=Ma
  have hb:bl=false:=by
   cases bl with
   |false=>rfl
   |true=>have:=(L6 rfl).1;omega
  subst hb
  obtain⟨rfl,rfl,rfl⟩:ds=[]/\s=gv 0 0/\m=0:=by
   rcases Z with ⟨x,_⟩|⟨x,_⟩|⟨x,_⟩|⟨x,_⟩|⟨x,_⟩|⟨_,_,x,y,z⟩
   .rcases x with x|⟨j,x,_⟩<;>omega
   .omega
   .omega
   .omega
   .omega
   .exact⟨x,y,z⟩
  exact⟨0,_,T,rfl,A,w,sl,q,a0,rfl,rfl,h0,hA,⟨λx y hx hy=>C.idle x y hx (by simp) hy,λi s c _ e=>(by cases e),λi s e=>(by cases e),λ_ _ z=>z.elim,λi i' s s' c e=>(by cases e),C.above,λi s e=>(by cases e),λi hi=>hi.elim,λi s _ e=>(by cases e),⟨C.past.clean,λi a ha hm=>.inl ((C.past.known i a ha hm).elim id fun⟨_,g,_,hg,_⟩=>by cases hg),λ_ _ _ _ z=>z.elim,λ_ z=>z.elim,C.past.seen⟩,C.keep⟩,jf,l,o⟩
 have yx:∃(i:Nat)(g:aW),A[i]? =some g/\g.status=.running:=by
  cases bl with
  |false=>exact⟨0,a0,h0,Cb⟩
  |true=>
   obtain⟨e1,e2,_⟩:=L6 rfl
   have ny:∃i,i∈ds:=by
    rcases Z with ⟨x,_⟩|⟨_,_,x,_⟩|⟨_,⟨i,x,_⟩,_⟩|⟨_,⟨i,x,_⟩,_⟩|⟨_,_,_,x⟩|⟨x,_⟩
    .rcases x with x|⟨j,x,_⟩<;>omega
    .exact List.exists_mem_of_length_pos x
    .exact⟨i,by rw[x];simp⟩
    .exact⟨i,by rw[x];simp⟩
    .omega
    .omega
   obtain⟨i,hi⟩:=ny;obtain⟨_,_,_,g,hg,OB,_⟩:=C.dep i hi;exact⟨i,g,hg,OB.running⟩
 have OM:∀g∈A,awake g:=by
  refine C.awake h0 ?_;cases bl with
  |false=>exact .inl Cb
  |true=>exact .inr rfl
 obtain⟨i,g,d,H,hi,hg,sE⟩:=crowd_pick (P:=P) (w:=w) (sl:=sl) OM yx;have Cd:C3 P K Shun St B (λ_=>none) Gp 0 ds D T A (w.at d) q:=C.in (J.at' _ d C.keep) (λ_ _ _ e=>by cases e);have f:K (w.at d):=Cd.keep;have next:∀{RD ops},runT P (crowd A (w.at d) H) i=(.next RD,ops)->∀N,runNT P (N+1) (crowd A w sl) T=runNT P N RD (T++ops):=λe N=>by simp only[runNT,sE,e]
 by_cases e0:i=0
 .subst e0
  have hb:bl=false:=by
   cases bl with
   |false=>rfl
   |true=>rw[h0]at hi;obtain rfl:=Option.some.inj hi;cases hg
  subst hb;obtain rfl:g=a0:=by rw[h0]at hi;exact(Option.some.inj hi).symm
  have step0:∀(a':aW)(w':aj)(es:dL),stepG P true g (w.at d)=.go a' w' es->K w'->(∀e∈es,wQ Shun (λ_=>False) B 0 e)->
   ∃p,runT P (crowd A (w.at d) H) 0=(.next (crowd p w' H),MemOp.ofEvents 0 g.frame.fn g.frame.place es)/\p.size=A.size/\p[0]? =some a'/\C3 P K Shun St B (λ_=>none) Gp 0 ds D (T++MemOp.ofEvents 0 g.frame.fn g.frame.place es) p w' q/\Deaf (T++MemOp.ofEvents 0 g.frame.fn g.frame.place es) 0=deafBehind (dM tm) es:=by
   intro a' w' es u hK pQ;obtain⟨C',Ay⟩:=Cd.own (a':=a') h0 hK (λ_ _ _ e=>by cases e) (λe he=>Ke e (pQ e he));exact⟨_,runT_crowd_go (sl:=H) h0 u,by simp,Ay,C',by rw[Deaf_own,jf]⟩
  have main:∀(a':aW)(w':aj)(es:dL)(G:Bool)(QH:aW)(P5 U6:Nat)(s' X:Int),stepG P true g (w.at d)=.go a' w' es->a'=(if G then{QH with status:=.blocked} else QH)->K w'->(∀e∈es,wQ Shun (λ_=>False) B 0 e)->deafBehind (dM tm) es=dM P5->
   WS P K Shun B Gp Anchor k U6 P5 QH->(G=true->P5=4/\X=0/\QH.offers=none)->H8 k P5 ds D s' X->jd .u64 Gp.st w' s'->jd .u32 Gp.se w' X->2*U6+(if G then 0 else 1)<S->
   ∃N X R,runNT P N (crowd A w sl) T=(.next X,R)/\Joined P K Shun B Gp Anchor A.size X R:=by
   intro a' w' es G QH P5 U6 s' X u Ay hK pQ wX hM' X2 J3 ud GF kU;obtain⟨p,td,kI,GR,C',J5⟩:=step0 a' w' es u hK pQ;obtain⟨N,mm,TT,hr,hj⟩:=ihS _ kU p w' H _ q QH G P5 U6 ds D s' X (by rw[kI];exact hL) rfl (by rw[GR,Ay]) C' hM' X2 h9 J3 ud GF (by rw[J5];exact wX);exact⟨N+1,mm,TT,by rw[next td];exact hr,by rw[<-kI];exact hj⟩
  have Y:∀{n:Nat},nm=n+1->2*n+1<S:=λe=>by simp at hS;omega
  rcases hM.inv with ⟨rfl,hs,h⟩|⟨n,rfl,Yn⟩
  .exact absurd ⟨h,rfl⟩ Ma
  rcases Yn with ⟨hs,g1,h,W⟩|⟨rfl,hs,g1,h,W⟩|⟨rfl,hs,Aw,g1,Qw,SH⟩|⟨rfl,hs,g1,Qw,SH⟩|⟨j,j0,jk,rfl,hs,⟨g1,h1,qV⟩,SX⟩|⟨rfl,hs,g1,h,W⟩|⟨rfl,hs,ho,g1,h1,Qw,W⟩|⟨rfl,hs,g1,h,W⟩|⟨rfl,hs,g1,h,W⟩
  .obtain⟨es,h1,h2⟩:=h _ f
   exact main _ _ es false _ _ _ s m h1 rfl f (λe he=>(h2 e he).1) (deafBehind_still (λe he=>(h2 e he).2) _) W (λz=>by cases z) Z l o (Y rfl)
  .refine main _ _ _ false _ _ _ s m (h _ f) rfl f (c9 (gY rfl trivial)) rfl W (λz=>by cases z) ?_ l o (Y rfl)
   rcases Z with ⟨x,y⟩|⟨x,_⟩|⟨x,_⟩|⟨x,_⟩|⟨x,_⟩|⟨x,_⟩
   .rcases x with x|⟨j,x,_⟩
    .exact .inl ⟨.inl ⟨by omega,x.2⟩,y⟩
    .omega
   all_goals omega
  .rcases Z with ⟨x,y1,rfl,rfl⟩|⟨x,_⟩|⟨x,_⟩|⟨x,_⟩|⟨x,_⟩|⟨x,_⟩
   .have xl:ds.length<=k:=by
     rcases x with x|⟨j,x,_⟩
     .exact x.2
     .omega
    by_cases hz:ds.length=0
    .have GJ:=MN.1 hz
     subst GJ;exact main _ _ _ false _ _ _ (gv 0 0) 0 (Qw _ f l) rfl f (c9 (dA id J.zn)) rfl SH (λz=>by cases z) (.inr (.inr (.inr (.inr (.inr ⟨by omega,by omega,rfl,rfl,rfl⟩))))) l o (Y rfl)
    .obtain⟨g2,Aq,Ce⟩:=Aw ds.length (by omega) xl
     refine main _ _ _ false _ _ _ (gv ds.length 0) 0 (Aq _ f l) rfl f (c9 (dA id J.zn)) ?_ Ce (λz=>by cases z) (.inl ⟨.inr ⟨ds.length,rfl,by omega,xl,az _⟩,y1,rfl,rfl⟩) l o (Y rfl);have:¬(100+ds.length=0\/100+ds.length=7\/100+ds.length=8):=by omega
     simp only[dM,this,if_false]
     rfl
   all_goals omega
  .have hG:ds=[]/\s=gv 0 0/\m=0:=by
    rcases Z with ⟨x,_⟩|⟨x,_⟩|⟨x,_⟩|⟨x,_⟩|⟨x,_⟩|⟨_,_,x,y,z⟩
    .rcases x with x|⟨j,x,_⟩<;>omega
    .omega
    .omega
    .omega
    .omega
    .exact⟨x,y,z⟩
   obtain⟨rfl,rfl,rfl⟩:=hG;exact main _ _ _ false _ _ _ (gv 0 0) 0 (Qw _ f l) rfl f (c9 (dA id J.zn)) rfl SH (λz=>by cases z) (.inr (.inr (.inr (.inr (.inr ⟨by omega,by omega,rfl,rfl,rfl⟩))))) l o (Y rfl)
  .have Qp:dM (100+j)=1:=by
    have:¬(100+j=0\/100+j=7\/100+j=8):=by omega
    simp only[dM,this,if_false]
   rcases Z with ⟨x,y1,rfl,rfl⟩|⟨x,_⟩|⟨x,_⟩|⟨x,_⟩|⟨x,_⟩|⟨x,_⟩
   .have xl:ds.length<=j:=by
     rcases x with x|⟨j',x,_,_,y⟩
     .omega
     .omega
    by_cases hz:ds.length=j
    .subst hz
     exact main _ _ _ false _ _ _ (gv ds.length 1) 0 (h1 _ f l) rfl (J.st _ _ f) (pV (dA id J.zn) (dA id J.zn)) (by rw[Qp];rfl) qV (λz=>by cases z) (.inr (.inl ⟨.inl rfl,y1,j0,rfl,rfl⟩)) (kE l _) (fE o Gp.ne _) (Y rfl)
    .obtain⟨g2,Aq,k',n',nA,Ce⟩:=SX ds.length (by omega)
     obtain⟨p,td,kI,GR,C',J5⟩:=step0 g2 (w.at d) _ (Aq _ f l) f (c9 (dA id J.zn));obtain⟨N,mm,TT,hr,hj⟩:=ihk k' (by omega) _ p (w.at d) H _ q g2 false 1 n' ds D (gv ds.length 0) 0 (by rw[kI];exact hL) rfl (by rw[GR];rfl) C' Ce (λz=>by cases z) h9 (.inl ⟨.inl ⟨by omega,by omega⟩,y1,rfl,rfl⟩) l o (by rw[J5,Qp];rfl);exact⟨N+1,mm,TT,by rw[next td];exact hr,by rw[<-kI];exact hj⟩
   all_goals omega
  .refine main _ _ _ false _ _ _ s m (h _ f) rfl f (c9 ⟨λx hx=>?_,J.RJ⟩) rfl W (λz=>by cases z) ?_ l o (Y rfl)
   .have:(MemAct.ofEvent (uN (.write Gp.se))).touch? =some ⟨.cell Gp.se,true,.said⟩:=rfl
    rw[this]at hx;obtain rfl:=Option.some.inj hx;exact⟨λz=>z.elim,λ_=>⟨by simp,λ_=>rfl⟩⟩
   .rcases Z with ⟨x,_⟩|⟨x,y⟩|⟨x,y⟩|⟨x,y⟩|⟨x,y⟩|⟨x,_⟩
    .rcases x with x|⟨j,x,_⟩<;>omega
    .exact .inr (.inl ⟨.inr rfl,y⟩)
    .exact .inr (.inr (.inl ⟨.inr rfl,y⟩))
    .exact .inr (.inr (.inr (.inl ⟨.inr rfl,y⟩)))
    .exact .inr (.inr (.inr (.inr (.inl ⟨.inr rfl,y⟩))))
    .omega
  .have hm:m=0\/(m=1/\ds=[]/\s=gv 0 0):=by
    rcases Z with ⟨_,_,_,x⟩|⟨_,_,_,_,x⟩|⟨_,_,_,x⟩|⟨_,_,_,x⟩|⟨_,x,y,z⟩|⟨_,_,_,_,x⟩
    .exact .inl x
    .exact .inl x
    .exact .inl x
    .exact .inl x
    .exact .inr ⟨z,x,y⟩
    .exact .inl x
   rcases hm with rfl|⟨rfl,rfl,rfl⟩
   .exact main _ _ _ true g 4 (n+1) s 0 (Qw _ f o) rfl f sN rfl (WS.one (.inr (.inr (.inr (.inr (.inr (.inr (.inl ⟨rfl,hs,ho,g1,h1,Qw,W⟩)))))))) (λ_=>⟨rfl,rfl,ho⟩) Z l o (by simp at hS ⊢;omega)
   .exact main _ _ _ false _ _ _ (gv 0 0) 0 (h1 _ f o) rfl (J.se _ _ f) (Hv (gY rfl trivial) (dA id J.RJ) (dA id J.RJ) (gY rfl trivial)) rfl W (λz=>by cases z) (.inr (.inr (.inr (.inr (.inr ⟨by omega,by omega,rfl,rfl,rfl⟩))))) (fE l (λz=>Gp.ne z.symm) _) (kE o _) (Y rfl)
  .have hG:ds=[]/\s=gv 0 0/\m=0:=by
    rcases Z with ⟨x,_⟩|⟨x,_⟩|⟨x,_⟩|⟨x,_⟩|⟨x,_⟩|⟨_,_,x,y,z⟩
    .rcases x with x|⟨j,x,_⟩<;>omega
    .omega
    .omega
    .omega
    .omega
    .exact⟨x,y,z⟩
   obtain⟨rfl,rfl,rfl⟩:=hG;exact main _ _ _ false _ _ _ (gv 0 0) 0 (h _ f) rfl f (c9 (gY rfl trivial)) rfl W (λz=>by cases z) (.inr (.inr (.inr (.inr (.inr ⟨by omega,by omega,rfl,rfl,rfl⟩))))) l o (Y rfl)
  .have hG:ds=[]/\s=gv 0 0/\m=0:=by
    rcases Z with ⟨x,_⟩|⟨x,_⟩|⟨x,_⟩|⟨x,_⟩|⟨x,_⟩|⟨_,_,x,y,z⟩
    .rcases x with x|⟨j,x,_⟩<;>omega
    .omega
    .omega
    .omega
    .omega
    .exact⟨x,y,z⟩
   obtain⟨rfl,rfl,rfl⟩:=hG;exact main _ _ _ false _ _ _ (gv 0 0) 0 (h _ f) rfl f (c9 (gY rfl J.zn)) rfl W (λz=>by cases z) (.inr (.inr (.inr (.inr (.inr ⟨by omega,by omega,rfl,rfl,rfl⟩))))) l o (Y rfl)
 have wk:∀(g':aW)(w':aj),∃G,woken P g g' w' (if bl then{a0 with status:=.blocked} else a0)=(if G then{a0 with status:=.blocked} else a0)/\(G=true->bl=true/\¬(mayWake P g=true/\g'.status=.running)):=by
  intro g' w';cases bl with
  |false=>exact⟨false,by simp only[tG,if_false];exact woken_of_again (again_running _ (.inl Cb)),λz=>by cases z⟩
  |true=>
   obtain⟨_,_,ho⟩:=L6 rfl;rcases tJ P g g' w' Cb ho with x|⟨x,y⟩
   .exact⟨false,by simpa using x,λz=>by cases z⟩
   .exact⟨true,by simpa using x,λ_=>⟨rfl,y⟩⟩
 by_cases b:i∈ds
 .obtain⟨d1,d2,_,g',d4,d5,d6⟩:=Cd.dep i b
  rw[hi]at d4;obtain rfl:=Option.some.inj d4;have kU:i<A.size:=(cH.1 hi).1;obtain⟨n,Ss,hD⟩:=d5.inv
  have hm0:m=0:=by
   rcases Z with ⟨_,_,_,x⟩|⟨_,_,_,_,x⟩|⟨_,_,_,x⟩|⟨_,_,_,x⟩|⟨_,x,_⟩|⟨_,_,x,_⟩
   .exact x
   .exact x
   .exact x
   .exact x
   .rw[x]at b;cases b
   .rw[x]at b;cases b
  subst hm0
  have bJ:∀(a':aW)(w':aj)(es:dL)(s' X:Int),stepG P false g (w.at d)=.go a' w' es->K w'->(∀e∈es,(∀x,(MemAct.ofEvent e).touch? =some x->x.kind=.atomic/\Shun x.loc)/\(MemAct.ofEvent e).low B)->ur (Deaf T i) es->QuitsD P n (deafBehind (Deaf T i) es) a'->
   ((bl=true->X=0)\/(mayWake P g=true/\a'.status=.running))->H8 k tm (ds.erase i) D s' X->jd .u64 Gp.st w' s'->jd .u32 Gp.se w' X->∃N X R,runNT P N (crowd A w sl) T=(.next X,R)/\Joined P K Shun B Gp Anchor A.size X R:=by
   intro a' w' es s' X u hK pQ SQ hQ Sc J3 ud GF;obtain⟨p,f1,f2,f3,f4,f5,_,f7⟩:=Cd.Cw H b hi u hK (λ_ _ _ e=>by cases e) pQ SQ;obtain⟨G,tZ,DE⟩:=wk a' w'
   obtain⟨N,mm,TT,hr,hj⟩:=Ws (sumTo p.size (upd q i n)) (by rw[f2];have:=gN (q:=q) kU Ss (az n);omega) k _ p w' H _ (upd q i n) a0 G tm nm (ds.erase i) D s' X rfl rfl (by rw[f4 _ h0,tZ]) (f7 n hQ) hM (λz=>by
    obtain⟨b1,b2⟩:=DE z;obtain⟨c1,_,c3⟩:=L6 b1;exact⟨c1,Sc.elim (λy=>y b1) λy=>absurd y b2,c3⟩) (aT List.length_erase_le h9) J3 ud GF (by rw[Deaf_other T e0 _ fD];exact jf)
   exact⟨N+1,mm,TT,by rw[next f1];exact hr,by rw[<-f2];exact hj⟩
  have stay:∀(a':aW)(w':aj)(es:dL)(t':Nat)(s':Int),stepG P false g (w.at d)=.go a' w' es->K w'->(∀e∈es,(∀x,(MemAct.ofEvent e).touch? =some x->x.kind=.atomic/\Shun x.loc)/\(MemAct.ofEvent e).low B)->ur (Deaf T i) es->DP P K Gp n t' a'->deafBehind (Deaf T i) es=dC t'->
   H8 k tm ds (upd D i t') s' 0->jd .u64 Gp.st w' s'->jd .u32 Gp.se w' 0->∃N X R,runNT P N (crowd A w sl) T=(.next X,R)/\Joined P K Shun B Gp Anchor A.size X R:=by
   intro a' w' es t' s' u hK pQ SQ OB wX J3 ud GF;obtain⟨p,f1,f2,f3,f4,f5,f6,_⟩:=Cd.Cw H b hi u hK (λ_ _ _ e=>by cases e) pQ SQ;obtain⟨G,tZ,DE⟩:=wk a' w'
   obtain⟨N,mm,TT,hr,hj⟩:=Ws (sumTo p.size (upd q i n)) (by rw[f2];have:=gN (q:=q) kU Ss (az n);omega) k _ p w' H _ (upd q i n) a0 G tm nm ds (upd D i t') s' 0 rfl rfl (by rw[f4 _ h0,tZ]) (f6 n t' OB wX) hM (λz=>by
    obtain⟨b1,_⟩:=DE z;obtain⟨c1,_,c3⟩:=L6 b1;exact⟨c1,rfl,c3⟩) h9 J3 ud GF (by rw[Deaf_other T e0 _ fD];exact jf)
   exact⟨N+1,mm,TT,by rw[next f1];exact hr,by rw[<-f2];exact hj⟩
  have RL:∀t',D i<=2->t'<=2->H8 k tm ds (upd D i t') s 0:=by
   intro t' h1 h2
   have up:∀Q6,Q6<=2->(∀x,x∈ds->D x<=2)->∀x,x∈ds->upd D i Q6 x<=2:=λQ6 h hx x R7=>by
    by_cases e:x=i
    .subst e;rw[upd_same];exact h
    .rw[upd_ne _ _ e];exact hx x R7
   rcases Z with ⟨x,y,z⟩|⟨x,y,z⟩|⟨_,⟨i',x,y⟩,_⟩|⟨_,⟨i',x,y⟩,_⟩|⟨_,x,_⟩|⟨_,_,x,_⟩
   .exact .inl ⟨x,up t' h2 y,z⟩
   .exact .inr (.inl ⟨x,up t' h2 y,z⟩)
   .rw[x]at b;simp at b;subst b;omega
   .rw[x]at b;simp at b;subst b;omega
   .rw[x]at b;cases b
   .rw[x]at b;cases b
  rcases hD with ⟨_,a',r,W⟩|⟨ht,_,a',r,W⟩|⟨ht,_,a',r,W⟩|⟨ht,_,J2,a1,WO,qV⟩|⟨ht,_,a',r,W⟩|⟨ht,_,a',r,W⟩|⟨ht,_,hw,a',JL,r,W⟩
  .refine stay a' _ _ (D i) s (r _ f) f sN (iJ sN) W (by rw[d6];rfl) ?_ l o
   have:upd D i (D i)=D:=by
    funext x
    by_cases e:x=i
    .subst e;rw[upd_same]
    .rw[upd_ne _ _ e]
   rw[this];exact Z
  .exact stay a' _ _ 1 s (r _ f) f (c9 (jT rfl J.zn)) (iJ (c9 rfl)) W (by rw[d6,ht];rfl) (RL 1 (by omega) (by omega)) l o
  .exact stay a' _ _ 2 s (r _ f) f (c9 (jT rfl trivial)) (iJ (c9 rfl)) W (by rw[d6,ht];rfl) (RL 2 (by omega) (by omega)) l o
  .rw[ht]at d6
   have hlen:(ds.erase i).length=ds.length-1:=List.length_erase_of_mem b;have JM:=MK b;have GB:ur (Deaf T i) #[tT Gp.st,Ej Gp.st]:=mA (by rw[d6];decide) (by intro e he;simp at he;rcases he with rfl|rfl<;>simp);rcases Z with ⟨x,y,rfl,_⟩|⟨x,y,_,rfl,_⟩|⟨_,⟨i',x,y⟩,_⟩|⟨_,⟨i',x,y⟩,_⟩|⟨_,x,_⟩|⟨_,_,x,_⟩
   .obtain⟨mm,Oo⟩:∃mm,ds.length=mm+1:=⟨ds.length-1,(MG JM).symm⟩
    obtain⟨a',r,hq⟩:=J2 mm 0 (by omega) (by omega) (.inl rfl);rw[Oo]at l;refine bJ a' _ _ (gv mm 0) 0 (r _ f l) (J.st _ _ f) (pV (cG J.xM J.zn) (cG J.xM J.zn)) GB (by rw[d6];exact hq) (.inl λ_=>rfl) (.inl ⟨?_,λx hx=>y x (Iw hx),by rw[hlen,Oo];rfl,rfl⟩) (kE l _) (fE o Gp.ne _);rcases x with ⟨x1,x2⟩|⟨j,x1,x2,x3,x4⟩
    .exact .inl ⟨x1,by omega⟩
    .exact .inr ⟨j,x1,x2,x3,by omega⟩
   .by_cases h1:ds.length=1
    .rw[h1]at l
     obtain⟨i',Ep⟩:=List.length_eq_one_iff.1 h1;have:i'=i:=by rw[Ep]at b;exact(xm.1 b).symm
     subst this;exact stay a1 _ _ 3 (gv 0 1) (WO _ f l) (J.st _ _ f) (pV (cG J.xM J.zn) (cG J.xM J.zn)) GB qV (by rw[d6];rfl) (.inr (.inr (.inl ⟨x,⟨i',Ep,by rw[upd_same];exact .inl rfl⟩,rfl,rfl⟩))) (kE l _) (fE o Gp.ne _)
    .obtain⟨mm,Oo⟩:∃mm,ds.length=mm+1:=⟨ds.length-1,(MG JM).symm⟩
     obtain⟨a',r,hq⟩:=J2 mm 1 (by omega) (by omega) (.inr (by omega));rw[Oo]at l;exact bJ a' _ _ (gv mm 1) 0 (r _ f l) (J.st _ _ f) (pV (cG J.xM J.zn) (cG J.xM J.zn)) GB (by rw[d6];exact hq) (.inl λ_=>rfl) (.inr (.inl ⟨x,λx hx=>y x (Iw hx),by omega,by rw[hlen,Oo];rfl,rfl⟩)) (kE l _) (fE o Gp.ne _)
   .rw[x]at b;simp at b;subst b;omega
   .rw[x]at b;simp at b;subst b;omega
   .rw[x]at b;cases b
   .rw[x]at b;cases b
  .rw[ht]at d6
   rcases Z with ⟨_,y,_⟩|⟨_,y,_⟩|⟨x0,⟨i',x,y⟩,rfl,_⟩|⟨_,⟨i',x,y⟩,_⟩|⟨_,x,_⟩|⟨_,_,x,_⟩
   .have:=y i b;omega
   .have:=y i b;omega
   .have:i'=i:=by rw[x]at b;exact(xm.1 b).symm
    subst this;exact stay a' _ _ 4 (gv 0 1) (r _ f l) f (c9 (cG J.xM J.zn)) (mA (by rw[d6];decide) (by intro e he;simp at he;subst he;simp)) W (by rw[d6];rfl) (.inr (.inr (.inl ⟨x0,⟨i',x,by rw[upd_same];exact .inr rfl⟩,rfl,rfl⟩))) l o
   .rw[x]at b;simp at b;subst b;omega
   .rw[x]at b;cases b
   .rw[x]at b;cases b
  .rw[ht]at d6
   rcases Z with ⟨_,y,_⟩|⟨_,y,_⟩|⟨x0,⟨i',x,y⟩,rfl,_⟩|⟨_,⟨i',x,y⟩,_⟩|⟨_,x,_⟩|⟨_,_,x,_⟩
   .have:=y i b;omega
   .have:=y i b;omega
   .have:i'=i:=by rw[x]at b;exact(xm.1 b).symm
    subst this;exact stay a' _ _ 5 (gv 0 0) (r _ f l) (J.st _ _ f) (c9 (cG J.xM J.zn)) (mA (by rw[d6];decide) (by intro e he;simp at he;subst he;simp)) W (by rw[d6];rfl) (.inr (.inr (.inr (.inl ⟨x0,⟨i',x,by rw[upd_same]⟩,rfl,rfl⟩)))) (kE l _) (fE o Gp.ne _)
   .rw[x]at b;simp at b;subst b;omega
   .rw[x]at b;cases b
   .rw[x]at b;cases b
  .rw[ht]at d6
   rcases Z with ⟨_,y,_⟩|⟨_,y,_⟩|⟨_,⟨i',x,y⟩,_⟩|⟨x0,⟨i',x,y⟩,rfl,_⟩|⟨_,x,_⟩|⟨_,_,x,_⟩
   .have:=y i b;omega
   .have:=y i b;omega
   .rw[x]at b;simp at b;subst b;omega
   .have:i'=i:=by rw[x]at b;exact(xm.1 b).symm
    subst this;exact bJ a' _ _ (gv 0 0) 1 (r _ f o) (J.se _ _ f) (Hv (jT rfl trivial) (cG J.Ra J.RJ) (cG J.Ra J.RJ) (jT rfl trivial)) (GA (by rw[d6];decide) _) (by rw[d6];exact W) (.inr ⟨hw,JL⟩) (.inr (.inr (.inr (.inr (.inl ⟨x0,by rw[x];simp,rfl,rfl⟩))))) (fE l (λz=>Gp.ne z.symm) _) (kE o _)
   .rw[x]at b;cases b
   .rw[x]at b;cases b
 .obtain⟨p,g',ops,U,td,v9,kI,GQ,C',kU⟩:=Cd.slip H hi e0 b rfl hg
  obtain⟨G,tZ,DE⟩:=wk g' (w.at d);obtain⟨N,mm,TT,hr,hj⟩:=Ws (sumTo p.size U) (by rw[kI];omega) k _ p (w.at d) H _ U a0 G tm nm ds D s m rfl rfl (by rw[GQ _ h0,tZ]) C' hM (λz=>L6 (DE z).1) h9 Z l o (by rw[Deaf_other T e0 _ v9];exact jf);exact⟨N+1,mm,TT,by rw[next td];exact hr,by rw[<-kI];exact hj⟩
end
end Go.Proofs.YtobagnjnbmgidaaGreatDoor
