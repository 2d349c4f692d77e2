import Derived.Test.YtobagnjnbmgidabGreatDoorG1
set_option linter.all false
set_option maxHeartbeats 0
set_option maxRecDepth 100000
namespace Go.Proofs.YtobagnjnbmgidabGreatDoor
open Go.Conc
open Go.ConcN (sumTo upd sumTo_upd upd_ne upd_same)
variable{nh:Nat}{Ak:dm}
variable{U:qz}{K' Q Q':cK}{St tW:Nat->Loc->Prop}{D V:Nat->Option Seat}{h j c k kk L Y n dl t:Nat}{ds R:aN}{O W q Z:bU}{T X:Trace}{I E:jH}{w w':aj}{a a₂ g g':aV}{s:Seat}{v z z':ay}{es:dS}{M M':Nat->Goroutine->Prop}{F F':kr}
section
variable{P:aG}{K:cK}{p:dm}{B:Nat}{A:qt}
theorem C3.passed(C:C3 P K p St B D A h ds O T I w q)(m:∀x,x≠h->x≠j->E[x]? =I[x]?)(hI:∀x,x≠h->x≠j->V x=D x)(N:V j=none)(o:∀x,x≠h->x≠j->tW x=St x)(n:∀x,x≠h->(x∈R↔x∈ds))(w:j≠h)(L:j∉ds)(w:R.Nodup)(M:∀x,x≠h->W x=O x)(hq:∀x,x≠h->Z x=q x)(S:∀x,Deaf X x=Deaf T x)(M:∀x,E.size<=x->I.size<=x)(q:(h∉R/\∃g,E[h]? =some g/\Idle P K (tW h) B X h (Z h) g (V h))\/(h∈R/\0<h/\V h=none/\∃g,E[h]? =some g/\DP P K A (Z h) (W h) g/\Deaf X h=dC (W h)))(q:∀i s c,V i=some s->s.has c->∃cap k,w'.heap[c]? =some (.chan cap #[] false k k false))(k:∀s,V h=some s->s.Wf)(b:∀i s d c,V h=some s->i≠h->i≠j->D i=some d->s.has c->¬d.has c)(k:∀s c,V h=some s->s.has c->c<B)(k:∀l,(V h).isSome->tW h l->¬p l)(k:P3 p tW (λg=>(V g).isSome) B j X)(T:K w'):C3 P K p tW B V A j R W X E w' Z:=by
 have a:∀i s,V i=some s->(i=h)\/(i≠h/\i≠j/\D i=some s):=λi s e=>by
  grind
 refine⟨λx y f B Q=>?_,λx f=>?_,w,q,λi s e=>?_,λi J s d c e1 Y F v=>?_,λx f=>by rw[S];exact C.above x (M x f),λi s c e hc=>?_,N,λi l hs hl=>?_,k,T⟩
 .by_cases e:x=h
  .simp_all
  .rw[m x e f]at Q;have:=C.idle x y e (λz=>B ((n x e).2 z)) Q;rw[hI x e f,o x e f,hq x e];cases U:D x with
   |none=>rw[U]at this;exact⟨this.1,by rw[S];exact this.2⟩
   |some s=>rw[U]at this;exact this
 .by_cases e:x=h
  .grind
  .have h:=(n x e).1 f;have f:x≠j:=λz=>L (z▸h);let⟨F,v,_,g,_,_,f⟩:=C.dep x h;simp_all
 .rcases a i s e with rfl|⟨_,_,u⟩
  .simp_all
  .exact C.wf i s u
 .rcases a i s e1 with rfl|⟨H,G,t⟩<;>rcases a J d Y with rfl|⟨i3,i4,r⟩
  .rfl
  .exact absurd v (b J s d c e1 i3 i4 r F)
  .exact absurd F (b i d s c Y H G t v)
  .exact C.inj i J s d c t r F v
 .rcases a i s e with rfl|⟨_,_,u⟩
  .simp_all
  .exact C.low i s c u hc
 .let⟨s,e⟩:=Option.isSome_iff_exists.1 hs;rcases a i s e with rfl|⟨H,G,u⟩
  .simp_all
  .exact C.ss i l (by rw[u];rfl) (by rw[<-o i H G];exact hl)
def Sg(P:aG)(K:cK)(p:dm)(St:Nat->Loc->Prop)(B:Nat)(D:Nat->Option Seat)(A:qt)(L Y h j:Nat)(a₂:aV)(s:Seat)(c kk k n:Nat)(v:ay)(w:aj)(m:Machine)(t:Trace):Prop:=
 ∃(E F7:jH)(Rh:aV)(d:Nat)(Pe:qT)(Z:bU)(ds:aN)(O:bU)(Dr zI:Trace)(fh:FuncId)(ph:String)(fj:FuncId)(pj:String),m=crowd E (Wv A ((w.at d).setChan c 0 #[] false (k+1) (k+1) false) (L+ds.length)) Pe/\
   t=Dr++(zI++met h j fh ph fj pj c k 0)/\E.size=n/\F7.size=n/\E[h]? =some (Go.Conc.served a₂ undef)/\E[j]? =some (Go.Conc.served Rh (commResult s.cases s.shape kk v true))/\s.home Rh/\(∀x,x≠h->x≠j->E[x]? =F7[x]?)/\L+ds.length<=Y/\(∀i,i∈ds->O i<=2)/\
   C3 P K p St B D A h ds O Dr F7 (Wv A (w.at d) (L+ds.length)) Z/\P3 p St (λg=>(D g).isSome) B h (Dr++zI)/\(∀x,Deaf (Dr++zI) x=Deaf Dr x)/\Deaf Dr h=0
def ry(G:GK K p A)(a:K w)(b:w.heap[c]? =some (.chan 0 #[] false k k false))(m x:Nat):(Wv A w m).setChan c 0 #[] false x x false=Wv A (w.setChan c 0 #[] false x x false) m:=
 vB w (λe=>by let⟨_,el,f,b⟩:=(G.row w a).1;simp_all) _ _ _ _ _ _ _
theorem YO(G:GK K p A)(hB:A.st.block<B)(o8:Y<=9999)(H:j≠h)(U:D j=some s)(hk:s.cases[kk]? =some (rcase c z))(hc:w.heap[c]? =some (.chan 0 #[] false k k false)):
 ∀(μ:Nat)(I:jH)(T:Trace)(q:bU)(sl:qT)(a:Nat)(ds:aN)(O:bU),sumTo I.size q=μ->j<I.size->I[h]? =some (parked a₂ #[scase c v z'] .send)->0<q j->L+ds.length<=Y->(∀i,i∈ds->O i<=2)->Deaf T h=0->
   C3 P K p St B D A h ds O T I (Wv A (w.at a) (L+ds.length)) q->∃N m' X,runNT P N (crowd I (Wv A (w.at a) (L+ds.length)) sl) T=(.next m',X)/\Sg P K p St B D A L Y h j a₂ s c kk k I.size v w m' X:=by
 intro μ;induction μ using Nat.strongRecOn with
 |_ μ ih=>
  intro I T q sl a ds O v aaH J v hL KC Hi C;have Ni:j∉ds:=λe=>by rw[(C.dep j e).2.2.1]at U;cases U
  have Tv:I[j]? =some I[j]:=iz aaH;have hS:Sits P (j==0) K (St j) B s (q j) I[j]:=by have:=C.idle j _ H Ni Tv;rwa[U]at this
  have v:I[j].status=.running:=(Go.Conc.Sits.status C.keep hS).elim (·.1) λx=>ω
  let⟨i,g,d,o,hi,hg,S⟩:=crowd_pick (P:=P) (w:=Wv A (w.at a) (L+ds.length)) (sl:=sl) (C.awake J (.inr rfl)) ⟨j,_,Tv,v⟩;have f:stepT P (crowd I (Wv A (w.at a) (L+ds.length)) sl)=runT P (crowd I (Wv A (w.at d) (L+ds.length)) o) i:=S;have Cd:C3 P K p St B D A h ds O T I (Wv A (w.at d) (L+ds.length)) q:=C.in (G.at' _ d C.keep) (λ_ _ _ _ _=>rfl);have NE:K (w.at d):=(jA G).1 Cd.keep;have Nu:(w.at d).heap[c]? =some (.chan 0 #[] false k k false):=hc;have XJ:∀m,(Wv A (w.at d) m).heap[c]? =some (.chan 0 #[] false k k false):=λm=>(eG G NE m Nu).trans Nu;have KN:=XJ (L+ds.length);have Vf:h<I.size:=(cU.1 J).1;have Xv:i≠h:=λe=>by subst e;rw[J]at hi;obtain rfl:=Option.some.inj hi;cases hg
  have KB:=C.wf j s U;by_cases e:i=j/\∃n,AtIn P (i==0) K (St i) B s g n
  .obtain⟨rfl,n,TC⟩:=e;let⟨_,_,_,_,V,_,e,UD⟩:=TC;let⟨l,hr,hl,hd⟩:=evC_ops (i:=i) (fn:=g.frame.fn) (pos:=g.frame.place) e;have hp:partners (I.setIfInBounds i ph) c true=[(h,0)]:=by
    rw[partners_one (stand_get (Ne.symm H) J) λx y F hy=>by
     rcases getElem?_stand I i x y hy with ⟨_,rfl⟩|⟨_,r⟩
     .rfl
     .exact Cd.noSend F r _]
    simp[offersAt_parked_send]
   have ho:∀(m:Nat)(c':CommCase),m≠kk->s.cases[m]? =some c'->NoWays (Wv A (w.at d) (L+ds.length)) (I.setIfInBounds i ph) c':=by
    intro m c' hm u;obtain⟨M,Xa,rfl⟩:=KB.recvs c' (DZ u);have qM:c≠M:=λec=>rH KB hk m _ hm u (by rw[ec];rfl);let⟨_,_,e⟩:=Cd.chans i s M U ⟨m,Xa,u⟩;refine ways_recv_none e (partners_nil λx y hy=>?_);rcases getElem?_stand I i x y hy with ⟨_,rfl⟩|⟨_,r⟩
    .rfl
    .by_cases F:x=h
     .subst F;rw[J]at r;obtain rfl:=Option.some.inj r;rw[offersAt_parked_send,af qM]
     .exact Cd.noSend F r _
   have Q:=crowd_sel_recv_meets (sl:=o) hi (UD _ Cd.keep) hk ho KN (Ne.symm H) J hp;have e:(D i).isSome:=by rw[U];rfl
   refine⟨1,_,_,Ie (f.trans Q),_,I,n,d,o,q,ds,O,T,_,_,_,_,_,by rw[ry G NE Nu],rfl,ψ,rfl,?_,?_,V,λx g g=>?_,hL,KC,Cd,qF C.past l (λop g b h=>⟨(hr op g b h).1,e,(hr op g b h).2⟩) (λ_=>hd T) hl,λx=>?_,Hi⟩
   .rw[ku H,Lt Vf,finishComm_send]
   .rw[Lt ξ,finishComm_served]
   .grind
   .by_cases ex:x=i
    .simp_all
    .exact Deaf_other T (λz=>ex z.symm) _ l
  .let⟨E,_,Z,R,W,Q,l,_,_,_,_,C',UG,_,b⟩:=Cd.by (sl:=o) G hB ω KC hi Xv hg (λgx m t=>by rw[J]at t;obtain rfl:=Option.some.inj t;exact again_send_open (XJ m))
    (λs' n Y6 TC gx c' t u=>by
      rw[J]at t;obtain rfl:=Option.some.inj t;rw[offersAt_parked_send,af];intro ec;have b:i=j:=C.inj i j s' s c Y6 U (ec▸u) ⟨kk,z,hk⟩;grind)
   have b:0<Z j:=by
    grind
   let⟨N,m',X,h1,c⟩:=ih (sumTo E.size Z) ξ E _ Z o d R W rfl ω ξ b ω UG (by rw[Deaf_other T Xv _ l];exact Hi) C';exact⟨N+1,m',X,by simp only[runNT,f,Q];exact h1,ξ⟩
theorem KY(G:GK K p A)(hB:A.st.block<B)(o8:Y<=9999)(u:j≠h)(W:D j=some s)(hk:s.cases[kk]? =some (rcase c z))(hc:w.heap[c]? =some (.chan 0 #[] false k k false))(Z:a.status=.running)(hsend:∀d m,K (w.at d)->stepG P (h==0) a (Wv A (w.at d) m)=.comm a₂ #[scase c v z'] true .send (Wv A (w.at d) m) es)(Y7:∀e∈es,wE p (nG St (λg=>(D g).isSome)) B h e/\e.loc≠.mark .disable/\e.loc≠.mark .enable)(I:jH)(T:Trace)(q:bU)(sl:qT)(H:Nat)(ds:aN)(O:bU)(m:j<I.size)(ha:I[h]? =some a)(hL:L+ds.length<=Y)(m:∀i,i∈ds->O i<=2)(Hi:Deaf T h=0)(C:C3 P K p St B D A h ds O T I (Wv A (w.at H) (L+ds.length)) q):
 ∃N m' X,runNT P N (crowd I (Wv A (w.at H) (L+ds.length)) sl) T=(.next m',X)/\Sg P K p St B D A L Y h j a₂ s c kk k I.size v w m' X:=by
 let⟨N,b,_,d,i,J,l,r,f,o,e1,e2,e3,e4,e5,e6,n,e8⟩:=mF G hB o8 Z _ I T q sl H ds O rfl ha hL m C;have M:K (w.at d):=(jA G).1 n.keep;have U:(w.at d).heap[c]? =some (.chan 0 #[] false k k false):=hc;have KN:(Wv A (w.at d) (L+f.length)).heap[c]? =some (.chan 0 #[] false k k false):=(eG G M _ U).trans U;have Vf:h<b.size:=(cU.1 e4).1;have Ni:j∉f:=λe=>by rw[(n.dep j e).2.2.1]at W;cases W
 have F:j<b.size:=ω
 have Tv:b[j]? =some b[j]:=iz F;have KB:=n.wf j s W;have hS:Sits P (j==0) K (St j) B s (r j) b[j]:=by have:=n.idle j _ u Ni Tv;rwa[W]at this
 have hdT:Deaf l h=0:=e8.trans Hi;have Ze:P3 p St (λg=>(D g).isSome) B h (l++MemOp.ofEvents h a.frame.fn a.frame.place es):=zH n.past (λe i=>(Y7 e i).1) (by rw[n.zL];simp);have k:Deaf (l++MemOp.ofEvents h a.frame.fn a.frame.place es) h=Deaf l h:=by rw[Deaf_own];exact deafBehind_still (λe i=>(Y7 e i).2) _
 have V:∀x,Deaf (l++MemOp.ofEvents h a.frame.fn a.frame.place es) x=Deaf l x:=λx=>by
  by_cases ex:x=h
  .simp_all
  .exact Deaf_other l (λz=>ex z.symm) _ fM
 have aaF:∀(x:Nat)(y:aV),x≠j->(b.setIfInBounds h ph)[x]? =some y->offersAt y c false=[]:=by
  intro x y t E;rcases getElem?_stand b h x y E with ⟨_,rfl⟩|⟨hx,ZQ⟩
  .rfl
  .exact n.MH hx ZQ λs' i k=>t (n.inj x j s' s c i W k ⟨kk,z,hk⟩)
 rcases hS with ⟨m,i,q,C⟩|⟨k,k,R,k,TC⟩
 .have k:b[j].status=.running:=(Go.Conc.Sits.status n.keep (.inl ⟨m,i,q,C⟩)).elim (·.1) λx=>ω
  have hp:partners (b.setIfInBounds h ph) c false=[]:=partners_nil λx y E=>by
   by_cases t:x=j
   .subst t;rw[stand_get u Tv]at E;obtain rfl:=Option.some.inj E;exact offersAt_of_not_blocked ξ _ _
   grind
  have hw:∀i∈#[scase c v z'],NoWays (Wv A (w.at d) (L+f.length)) (b.setIfInBounds h ph) i:=by
   intro i KO;simp only[rq,ak,bH,or_false]at KO;subst KO;exact ways_send_none KN (az _) hp
  have S:=crowd_waits (sl:=J) e4 (hsend d _ M) hw;have C':C3 P K p St B D A h f o (l++MemOp.ofEvents h a.frame.fn a.frame.place es) (b.setIfInBounds h (parked a₂ #[scase c v z'] .send)) (Wv A (w.at d) (L+f.length)) r:=by
   refine⟨λy i E a Xx=>?_,λy E=>?_,n.nd,n.chans,n.wf,n.inj,λx hx=>by rw[V];exact n.above x ξ,n.low,n.zL,n.ss,Ze,n.keep⟩
   .rw[ku (λe=>E e.symm)]at Xx;have:=n.idle y i E a Xx;cases e:D y with
    |none=>rw[e]at this;exact⟨this.1,by rw[V];exact this.2⟩
    |some s'=>rw[e]at this;exact this
   .let⟨h1,a,_,g,_,_,e⟩:=n.dep y E;grind
  let⟨N',m',X,h1,a⟩:=YO (v:=v) (z':=z') (a₂:=a₂) G hB o8 u W hk hc _ _ _ r J d f o rfl ξ (Lt Vf) ω e5 e6 ω C';exact⟨(N+1)+N',m',X,runNT_then (lE e1 (e2.trans S)) h1,ξ⟩
 .have Q:b[j]? =some (parked R s.cases s.shape):=ξ
  have hp:partners (b.setIfInBounds h ph) c false=[(j,kk)]:=by
   rw[partners_one (stand_get u Q) λx y t E=>aaF x y t E,offersAt_parked_at hk (rH KB hk)];rfl
  have S:=crowd_send_meets_sel (sl:=J) e4 (hsend d _ M) KN u Q hk hp;refine⟨N+1,_,_,lE e1 (e2.trans S),_,b,R,d,J,r,f,o,l,_,_,_,_,_,by rw[ry G M U],rfl,by simp[e3],e3,?_,?_,TC.2.2.2.2.1,λx hx t=>?_,e5,e6,n,Ze,V,hdT⟩
  .exact Lt ξ
  .rw[ku (λz=>u z.symm),Lt F,finishComm_served]
  grind
structure So(P:aG)(K:cK)(p:dm)(St:Nat->Loc->Prop)(D:Nat->Option Seat)(A:qt)(h n j c kk:Nat)(s:Seat)(v:ay)(a a₂:aV)(w:aj):Prop where
 kc:∀w k,K w->K (w.setChan c 0 #[] false k k false)
 jh:j≠h
 jn:j<n
 hj:D j=some s
 hk:∃z,s.cases[kk]? =some (rcase c z)
 run:a.status=.running
 send:∃z' es,(∀d m,K (w.at d)->stepG P (h==0) a (Wv A (w.at d) m)=.comm a₂ #[scase c v z'] true .send (Wv A (w.at d) m) es)/\∀e∈es,wE p (nG St (λg=>(D g).isSome)) w.heap.size h e/\e.loc≠.mark .disable/\e.loc≠.mark .enable
 ch:∃k,w.heap[c]? =some (.chan 0 #[] false k k false)
theorem fP.ya(G:GK K p A)(o8:Y<=9999)(H:So P K p St D A h n j c kk s v a a₂ w){sh:Seat}(KB:sh.Wf)(ND:∀l,Ak l->l.isMemory=true/\¬p l)(aaE:Sits P (h==0) K Ak w.heap.size sh nh (Go.Conc.served a₂ undef))(mQ:∀b,sh.has b->∃f,w.heap[b]? =some (.chan 0 #[] false f f false))(zB:∀i V b,i≠h->i≠j->D i=some V->sh.has b->¬V.has b)(next:∀k o,w.heap[c]? =some (.chan 0 #[] false k k false)->s.home o->Q w->fP P U K Q' p (upd St h Ak) (upd (upd D h (some sh)) j none) A L Y j n 0 (Go.Conc.served o (commResult s.cases s.shape kk v true)) (w.setChan c 0 #[] false (k+1) (k+1) false))(hQ:∀k,w.heap[c]? =some (.chan 0 #[] false k k false)->Q w->Q' (w.setChan c 0 #[] false (k+1) (k+1) false)):fP P U K Q p St D A L Y h n 0 a w:=by
 intro a I T q Q ds O M1 ha hL KC hq hd C;let⟨k,hc⟩:=H.ch;let⟨z,hk⟩:=H.hk;let⟨z',es,hsend,n⟩:=H.send;have F:=H.jh;have hj:=H.hj;have hB:A.st.block<w.heap.size:=(G.row _ ((jA G).1 C.keep)).1.lt;obtain⟨N,N,N,e1,E,N,o,d,Pe,Z,R,W,t,m,fh,ph,fj,pj,rfl,rfl,m1,N,m3,m4,m5,m6,m7,m8,u,p0,OQ,N⟩:=KY (v:=v) (z':=z') G hB o8 F hj hk hc H.run hsend n I T q Q a ds O (by rw[M1];exact H.jn) ha hL KC hd C;refine Goal.back e1 ?_;have M:K (w.at d):=(jA G).1 u.keep;have Nu:(w.at d).heap[c]? =some (.chan 0 #[] false k k false):=hc;have UH:s.has c:=⟨kk,z,hk⟩;have hDD:∀x,Deaf (t++(m++met h j fh ph fj pj c k 0)) x=Deaf t x:=λx=>by rw[<-Yz,Deaf_quiet (met_quiet h j fh ph fj pj c k 0 x),OQ]
 have S:∀x,x≠h->x≠j->upd (upd D h (some sh)) j none x=D x:=λx X h2=>by rw[upd_ne _ _ h2,upd_ne _ _ X]
 have Wb:upd (upd D h (some sh)) j none h=some sh:=by rw[upd_ne _ _ (λe=>F e.symm),upd_same]
 have ZJ:∀x,x≠h->upd St h Ak x=St x:=λx X=>upd_ne _ _ X;have KO:∀b:Nat,(∃cap f:Nat,(w.at d).heap[b]? =some (Obj.chan cap #[] false f f false))->∃cap f:Nat,(Wv A ((w.at d).setChan c 0 #[] false (k+1) (k+1) false) (L+R.length)).heap[b]? =some (Obj.chan cap #[] false f f false):=λb ⟨cap,f,r⟩=>by
  have XS:K ((w.at d).setChan c 0 #[] false (k+1) (k+1) false):=H.kc _ _ M;by_cases e:c=b
  .subst e;have:=heap_setChan_self (w.at d) Nu 0 #[] false (k+1) (k+1) false;exact⟨0,k+1,(eG G XS _ this).trans this⟩
  .have:((w.at d).setChan c 0 #[] false (k+1) (k+1) false).heap[b]? =some (.chan cap #[] false f f false):=by rw[heap_setChan_ne _ _ _ _ _ _ _ e];exact r
   exact⟨cap,f,(eG G XS _ this).trans this⟩
 have pp:=E9 (tW:=upd St h Ak) (pH:=λg=>(upd (upd D h (some sh)) j none g).isSome) p0 (λg l y B=>u.ss g l y B) (λg y Tv=>by
  have OL:g≠h:=λe=>by rw[e,u.zL]at y;cases y
  refine⟨by show(upd (upd D h (some sh)) j none g).isSome;rw[S g OL Tv];exact y,λl B=>ξ⟩)
  (λg y=>by
    by_cases e:g=h
    .subst e;exact .inr ⟨rfl,λl B=>ND l (by rw[upd_same]at B;exact B)⟩
    .have e2:g≠j:=λz=>by subst z;rw[upd_same]at y;cases y
     simp_all) ξ ξ fh ph fj pj k (u.low j s c hj UH)
 rw[Yz]at pp;have C':C3 P K p (upd St h Ak) w.heap.size (upd (upd D h (some sh)) j none) A j R W (t++(m++met h j fh ph fj pj c k 0)) E (Wv A ((w.at d).setChan c 0 #[] false (k+1) (k+1) false) (L+R.length)) (upd Z h nh):=by
  refine u.passed m6 S (upd_same ..) (λx X h2=>ZJ x X) (λx _=>Iff.rfl) F (λe=>by rw[(u.dep j e).2.2.1]at hj;cases hj) u.nd (λ_ _=>rfl) (λx a=>upd_ne _ _ a) hDD (λx a=>ω) (.inl ⟨λe=>(u.dep h e).1 rfl,_,m3,?_⟩) (λi V b e J=>?_) (λV e=>?_) (λi a a b e X h2 e2 a a=>?_) (λV b e J=>?_) (λl _ B=>?_) pp ((jA G).2 (H.kc _ _ M))
  .rw[Wb,upd_same,upd_same];exact aaE
  .by_cases e1:i=h
   .subst e1;rw[Wb]at e;obtain rfl:=Option.some.inj e;let⟨f,r⟩:=mQ b J;exact KO b ⟨0,f,r⟩
   .have e2:i≠j:=λz=>by rw[z,upd_same]at e;cases e
    rw[S i e1 e2]at e;let⟨cap,f,r⟩:=u.chans i V b e J;exact KO b ⟨cap,f,nR G M _ r⟩
  .simp_all
  .grind
  .grind
  .rw[upd_same]at B;simp_all
 have a:=next k o hc m5 hq d E _ (upd Z h nh) Pe R W (m1.trans M1) m4 m7 m8 (hQ k hc hq) (by rw[hDD];exact u.past.hears j ξ) (by rw[show(w.setChan c 0 #[] false (k+1) (k+1) false).heap.size=w.heap.size from by simp[World.setChan]];exact C');exact a
theorem fP.F9(G:GK K p A)(o8:Y<=9999)(H:So P K p St D A h n j c kk s v a a₂ w)(h0:0<h)(QR:DP P K A nh 0 (Go.Conc.served a₂ undef))(next:∀k f,w.heap[c]? =some (.chan 0 #[] false k k false)->s.home f->Q w->fP P U K Q' p St (upd D j none) A L Y j n 0 (Go.Conc.served f (commResult s.cases s.shape kk v true)) (w.setChan c 0 #[] false (k+1) (k+1) false))(hQ:∀k,w.heap[c]? =some (.chan 0 #[] false k k false)->Q w->Q' (w.setChan c 0 #[] false (k+1) (k+1) false)):fP P U K Q p St D A (L+1) Y h n 0 a w:=by
 intro a I T q Q ds O S ha hL KC hq hd C;let⟨k,hc⟩:=H.ch;let⟨z,hk⟩:=H.hk;let⟨z',es,hsend,n⟩:=H.send;have y:=H.jh;have hj:=H.hj;have hB:A.st.block<w.heap.size:=(G.row _ ((jA G).1 C.keep)).1.lt;obtain⟨N,N,N,e1,E,N,f,d,Pe,Z,R,W,m,b,fh,ph,fj,pj,rfl,rfl,m1,N,m3,m4,m5,m6,N,N,o,p0,OQ,Z1⟩:=KY (v:=v) (z':=z') G hB o8 y hj hk hc H.run hsend n I T q Q a ds O (by rw[S];exact H.jn) ha hL KC hd C;refine Goal.back e1 ?_;have B:K (w.at d):=(jA G).1 o.keep;have Nu:(w.at d).heap[c]? =some (.chan 0 #[] false k k false):=hc;have UH:s.has c:=⟨kk,z,hk⟩;have F:∀x,Deaf (m++(b++met h j fh ph fj pj c k 0)) x=Deaf m x:=λx=>by rw[<-Yz,Deaf_quiet (met_quiet h j fh ph fj pj c k 0 x),OQ]
 have r:∀x,x≠j->upd D j none x=D x:=λx h2=>upd_ne _ _ h2;have Wb:upd D j none h=none:=by rw[r h (λe=>y e.symm)];exact o.zL
 have t:L+(h::R).length=L+1+R.length:=θ
 have pp:=E9 (tW:=St) (pH:=λg=>(upd D j none g).isSome) p0 (λg l M a=>o.ss g l M a) (λg M n=>⟨by show(upd D j none g).isSome;rw[r g n];exact M,λl a=>a⟩)
  (λg M=>by
    have e2:g≠j:=λz=>by subst z;rw[upd_same]at M;cases M
    simp_all) ξ ξ fh ph fj pj k (o.low j s c hj UH)
 rw[Yz]at pp;have C':C3 P K p St w.heap.size (upd D j none) A j (h::R) (upd W h 0) (m++(b++met h j fh ph fj pj c k 0)) E (Wv A ((w.at d).setChan c 0 #[] false (k+1) (k+1) false) (L+(h::R).length)) (upd Z h nh):=by
  rw[t]
  refine o.passed m6 (λx _ h2=>r x h2) (upd_same ..) (λ_ _ _=>rfl) (λx J=>by simp[J]) y (λe=>by rw[(o.dep j e).2.2.1]at hj;cases hj) (List.nodup_cons.2 ⟨λe=>(o.dep h e).1 rfl,o.nd⟩) (λx J=>upd_ne _ _ J) (λx J=>upd_ne _ _ J) F (λx J=>ω)
   (.inr ⟨ψ,h0,Wb,_,m3,by rw[upd_same,upd_same];exact QR,by rw[F,upd_same];exact Z1⟩) (λi s' X e I9=>?_) (λs' e=>ξ) (λi a a X e=>ξ) (λs' X e=>ξ) (λl a=>ξ) pp ((jA G).2 (H.kc _ _ B))
  have e2:i≠j:=λz=>by rw[z,upd_same]at e;cases e
  rw[r i e2]at e;let⟨cap,k',a⟩:=o.chans i s' X e I9;have QJ:=nR G B _ a;have V:K ((w.at d).setChan c 0 #[] false (k+1) (k+1) false):=H.kc _ _ B;by_cases e:c=X
  .subst e;have:=heap_setChan_self (w.at d) Nu 0 #[] false (k+1) (k+1) false;exact⟨0,k+1,(eG G V _ this).trans this⟩
  .have:((w.at d).setChan c 0 #[] false (k+1) (k+1) false).heap[X]? =some (.chan cap #[] false k' k' false):=by rw[heap_setChan_ne _ _ _ _ _ _ _ e];exact QJ
   exact⟨cap,k',(eG G V _ this).trans this⟩
 have u:=next k f hc m5 hq d E _ (upd Z h nh) Pe (h::R) (upd W h 0) (m1.trans S) m4 ω (λi a=>by
  by_cases e:i=h
  .subst e;rw[upd_same];omega
  .rw[upd_ne _ _ e];simp_all) (hQ k hc hq) (by rw[F];exact o.past.hears j ξ) (by rw[show(w.setChan c 0 #[] false (k+1) (k+1) false).heap.size=w.heap.size from by simp[World.setChan]];exact C')
 rw[t]at u;exact u
end
def EA{z:Addr}(a:z.spot=none)(h:w.cell? z=some v):w.setCell z v=w:=by
 refine fK (λr=>?_) rfl rfl rfl rfl;rw[heap_set];by_cases e:z.block=r
 .subst e;rw[sJ rfl];unfold World.cell? at h;cases b:w.heap[z.block]? with
  |none=>rfl
  |some o=>
   rw[b]at h;cases o with
   |cells c el f=>
    simp only[a,Hw,sP,if_false]at h;simp only[fI,mB,a,Hw,sP,if_false];congr 2;grind
   |_=>rfl
 simp_all
section
variable{P:aG}{K:cK}{p:dm}{B:Nat}{A:qt}
theorem fP.hire(G:GK K p A)(o8:Y<=9999)(hs:a.status=.running){X child:aV}(hgo:∀d m,K (w.at d)->stepG P (h==0) a (Wv A (w.at d) m)=.spawn X child (Wv A (w.at d) m) es)(M:∀e∈es,wE p (nG St (λg=>(D g).isSome)) w.heap.size h e/\e.loc≠.mark .disable/\e.loc≠.mark .enable){sh:Seat}(m:sh.Wf)(ND:∀l,Ak l->l.isMemory=true/\¬p l)(H:Sits P (h==0) K Ak w.heap.size sh nh X)(mQ:∀o,sh.has o->∃E,w.heap[o]? =some (.chan 0 #[] false E E false))(m:∀i B o,i≠h->D i=some B->sh.has o->¬B.has o)(m:D n=none)(next:fP P U K Q p (upd St h Ak) (upd D h (some sh)) A L Y n (n+1) 0 child w):fP P U K Q p St D A L Y h n 0 a w:=by
 intro m I T q sl ds O M1 ha hL Q hq hd C;have hB:A.st.block<w.heap.size:=(G.row _ ((jA G).1 C.keep)).1.lt;let⟨_,b,_,d,_,F,c,t,f,k,Z,e2,e3,e4,e5,e6,j,N⟩:=mF G hB o8 hs _ I T q sl m ds O rfl ha hL Q C;have S:K (w.at d):=(jA G).1 j.keep;have CH:b.size=n:=e3.trans M1;have m:h<b.size:=(cU.1 e4).1;have hnh:n≠h:=ω
 have J:=runT_crowd_spawn (P:=P) (sl:=F) (w:=Wv A (w.at d) (L+f.length)) (w':=Wv A (w.at d) (L+f.length)) e4 (hgo d _ S)
 have m:((MemOp.ofEvents h a.frame.fn a.frame.place es).push {g:=h,fn:=a.frame.fn,pos:=a.frame.place,act:=.go b.size}|>.push {g:=b.size,fn:=child.frame.fn,pos:=a.frame.place,act:=.start})=
  MemOp.ofEvents h a.frame.fn a.frame.place es++#[{g:=h,fn:=a.frame.fn,pos:=a.frame.place,act:=.go b.size},{g:=b.size,fn:=child.frame.fn,pos:=a.frame.place,act:=.start}]:=by
  rfl
 rw[m]at J;have m:Deaf (c++MemOp.ofEvents h a.frame.fn a.frame.place es) h=Deaf c h:=by rw[Deaf_own];exact deafBehind_still (λe q=>(M e q).2) _
 have V:∀x,Deaf (c++MemOp.ofEvents h a.frame.fn a.frame.place es) x=Deaf c x:=λx=>by
  by_cases ex:x=h
  .simp_all
  .exact Deaf_other c (λz=>ex z.symm) _ fM
 have m:P3 p St (λg=>(D g).isSome) w.heap.size h (c++MemOp.ofEvents h a.frame.fn a.frame.place es):=zH j.past (λe q=>(M e q).1) (by rw[j.zL];simp);have y:∀x,x≠h->upd D h (some sh) x=D x:=λx s=>upd_ne _ _ s;have R:∀x,x≠h->upd St h Ak x=St x:=λx s=>upd_ne _ _ s;have pp:=PA (c:=b.size) (tW:=upd St h Ak) (pH:=λg=>(upd D h (some sh) g).isSome) m (λg l u r=>j.ss g l u r) (λg u=>by
  have m:g≠h:=λe=>by rw[e,j.zL]at u;cases u
  simp_all)
  (λg u=>by
    by_cases e:g=h
    .subst e;exact .inr ⟨rfl,λl r=>ND l (by rw[upd_same]at r;exact r)⟩
    .rw[y g e]at u;exact .inl ⟨u,λz=>ξ,λl r=>by rw[R g e]at r;exact r⟩) ω (by rw[V];exact j.above _ (az _)) a.frame.fn a.frame.place child.frame.fn a.frame.place
 have m:=Y8 (h:=h) (c:=b.size) a.frame.fn a.frame.place child.frame.fn a.frame.place;have W:∀x,Deaf (c++(MemOp.ofEvents h a.frame.fn a.frame.place es++#[{g:=h,fn:=a.frame.fn,pos:=a.frame.place,act:=.go b.size},{g:=b.size,fn:=child.frame.fn,pos:=a.frame.place,act:=.start}])) x=Deaf c x:=λx=>by rw[<-Yz,Deaf_quiet (m x),V]
 rw[Yz]at pp;refine Goal.back (lE Z (e2.trans J)) ?_;have m:(((b.setIfInBounds h X).push child))[h]? =some X:=χ
 have C':C3 P K p (upd St h Ak) w.heap.size (upd D h (some sh)) A n f k (c++(MemOp.ofEvents h a.frame.fn a.frame.place es++#[{g:=h,fn:=a.frame.fn,pos:=a.frame.place,act:=.go b.size},{g:=b.size,fn:=child.frame.fn,pos:=a.frame.place,act:=.start}])) ((b.setIfInBounds h X).push child) (Wv A (w.at d) (L+f.length)) (upd t h nh):=by
  refine j.passed (λx s b=>?_) (λx s _=>y x s) ξ (λx s _=>R x s) (λx _=>Iff.rfl) hnh (λe=>?_) j.nd (λ_ _=>rfl) (λx a=>upd_ne _ _ a) W (λx a=>χ) (.inl ⟨λe=>(j.dep h e).1 rfl,_,m,?_⟩) (λi B o e v=>?_) (λB e=>?_) (λi a a o e s b e2 a a=>?_) (λB o e v=>?_) (λl _ r=>?_) ξ j.keep
  .grind
  .let⟨_,_,_,g,u,_⟩:=j.dep n e;simp_all
  .rw[upd_same,upd_same,upd_same];exact H
  .by_cases Z:i=h
   .subst Z;rw[upd_same]at e;obtain rfl:=Option.some.inj e;let⟨E,b⟩:=mQ o v;have a:(w.at d).heap[o]? =some (.chan 0 #[] false E E false):=b;exact⟨0,E,(eG G S _ a).trans a⟩
   .rw[y i Z]at e;exact j.chans i B o e v
  .rw[upd_same]at e;simp_all
  .rw[upd_same]at e;grind
  .rw[upd_same]at e;grind
  .rw[upd_same]at r;simp_all
 exact next d _ _ (upd t h nh) F f k (by simp[CH]) χ e5 e6 hq (by rw[W];exact j.above n ω) C'
theorem fP.assume(G:GK K p A)(H:K w->Q w->fP P U K Q p St D A L Y h n dl g w):fP P U K Q p St D A L Y h n dl g w:=
 λd I T q b ds O h g f e a c C=>H (G.at' (w.at d) w.drawn ((jA G).1 C.keep)) a d I T q b ds O h g f e a c C
theorem fP.less(a:GK K' p A)(e:∀w,K' w->K w)(c:K' w)(H:fP P U K' Q p St D A L Y h n dl g w):fP P U K Q p St D A L Y h n dl g w:=
 λd I T q b ds O k j i h g f C=>H d I T q b ds O k j i h g f (C.less e ((jA a).2 (a.at' _ _ c)))
theorem fP.add(G:GK K p A)(j:Y<=9999)(u:a.status=.running){g':Nat->Goroutine}(f:∀d m,m<=Y->K (w.at d)->stepG P (h==0) a (Wv A (w.at d) m)=.go (g' m) (Wv A (w.at d) (m+1)) es)(l:∀e∈es,wE p (nG St (λg=>(D g).isSome)) w.heap.size h e)(next:∀m,m<=Y->fP P U K Q p St D A (L+1) (Y+1) h n (deafBehind dl es) (g' m) w):fP P U K Q p St D A L Y h n dl a w:=by
 intro a I T q h ds O e m n g v x C;have y:A.st.block<w.heap.size:=(G.row _ ((jA G).1 C.keep)).1.lt;let⟨N,E,_,d,_,b,X,Z,R,W,H,F,e,t,r,B,o,z⟩:=mF G y j u _ I T q h a ds O rfl m n g C;have a:K (w.at d):=(jA G).1 o.keep;have h:L+1+R.length=L+R.length+1:=ω
 let⟨n,e⟩:=o.own (a':=g' (L+R.length)) (w':=Wv A (w.at d) (L+1+R.length)) t ((jA G).2 a) (λi s c g m=>by
  let⟨cap,k,j⟩:=o.chans i s c g m;have c:=nR G a _ j;rw[eG G a _ c,eG G a _ c]) l
 refine Goal.back (lE H (F.trans (runT_crowd_go (sl:=b) t (f d _ r a)))) ?_;rw[<-h];exact next _ r d _ _ _ b R W ξ e ω B v (by rw[Deaf_own,z,x]) n
theorem fP.Iy{u:cK}(G:GK K p A)(h:A.st.spot=none)(t:K w)(r:Q w)(m:ji .u64 A.st w 0)(H:fP P U K Q p St (λ_=>none) A 0 Y 0 n 0 g w):nM P U u p n g w:=by
 intro d I T q k f j C;have n:Wv A (w.at d) (0+([]:aN).length)=w.at d:=EA h m.1;have o:Deaf T 0=0:=C.past.hears 0 rfl;have v:C3 P K p St w.heap.size (λ_=>none) A 0 [] (λ_=>0) T I (Wv A (w.at d) (0+([]:aN).length)) q:=by
  rw[n];exact⟨λi g b _ j=>C.idle i g b j,λi b=>(by cases b),List.nodup_nil,λi s c e=>(by cases e),λi s e=>(by cases e),λi g s g c e=>(by cases e),C.above,λi s c e=>(by cases e),rfl,λi l a=>(by cases a),⟨C.past.clean,λi x c e=>(C.past.known i x c e).imp id λz=>z.2.1.elim,λ_ _ _ _ _ a=>(by cases a),λ_ a=>(by cases a),C.past.seen⟩,G.at' _ _ t⟩
 have:=H d I T q k [] (λ_=>0) f j ψ (λi b=>by cases b) r o v;simp_all
end
section
variable(P:aG)(K:cK)(p:dm)(B:Nat)(A:qt)(Anchor:kr)
def OY(F:kr)(k:Nat)(M:Nat->Goroutine->Prop)(t:Nat)(g:aV):Prop:=
 (g.status=.running/\∃g',(∀w,K w->∃es,stepG P true g w=.go g' w es/\∀e∈es,wE p (λ_=>False) B 0 e/\e.loc≠.mark .disable/\e.loc≠.mark .enable)/\M t g')\/
 (t=0/\g.status=.running/\∃g',(∀w,K w->stepG P true g w=.go g' w #[uD .disable])/\M 1 g')\/
 (t=1/\g.status=.running/\(∀m,0<m->m<=k->∃g',(∀w,K w->ji .u64 A.st w (gv m 0)->stepG P true g w=.go g' w #[tF A.st])/\M (100+m) g')/\∃g',(∀w,K w->ji .u64 A.st w (gv 0 0)->stepG P true g w=.go g' w #[tF A.st])/\M 6 g')\/
 (t=5/\g.status=.running/\∃g',(∀w,K w->ji .u64 A.st w (gv 0 0)->stepG P true g w=.go g' w #[tF A.st])/\M 6 g')\/
 (∃m,0<m/\m<=k/\t=100+m/\g.status=.running/\(∃g',(∀w,K w->ji .u64 A.st w (gv m 0)->stepG P true g w=.go g' (w.setCell A.st (.int .u64 (gv m 1))) #[tF A.st,Dt A.st])/\M 3 g')/\∀m',m'<m->∃g',(∀w,K w->ji .u64 A.st w (gv m' 0)->stepG P true g w=.go g' w #[tF A.st])/\F g')\/
 (t=3/\g.status=.running/\∃g',(∀w,K w->stepG P true g w=.go g' w #[uD (.write A.se)])/\M 4 g')\/
 (t=4/\g.status=.running/\g.offers=none/\∃g',(∀w,K w->ji .u32 A.se w 1->stepG P true g w=.go g' (w.setCell A.se (.int .u32 0)) (semEvents A.se))/\(∀w,K w->ji .u32 A.se w 0->stepG P true g w=.go {g with status:=.blocked} w #[])/\M 5 g')\/
 (t=6/\g.status=.running/\∃g',(∀w,K w->stepG P true g w=.go g' w #[uD .enable])/\M 7 g')\/
 (t=7/\g.status=.running/\∃g',(∀w,K w->stepG P true g w=.go g' w #[uD (.acquire A.st)])/\M 8 g')
def NB(F:kr)(k:Nat):Nat->Nat->Goroutine->Prop
 |0,t,g=>t=8/\g.status=.running/\Anchor g
 |n+1,t,g=>(t=8/\g.status=.running/\Anchor g)\/OY P K p B A F k (NB F k n) t g
def WS:Nat->Nat->Nat->Goroutine->Prop
 |0=>NB P K p B A Anchor (λ_=>False) 0
 |k+1=>NB P K p B A Anchor (λg=>∃n,WS k n 1 g) (k+1)
def WF(k:Nat)(g:aV):Prop:=∃k' n,k=k'+1/\WS P K p B A Anchor k' n 1 g
end
section
variable{P:aG}{K:cK}{p:dm}{B:Nat}{A:qt}{Anchor:kr}
def OY.mono(i:∀g,F g->F' g)(h:∀t g,M t g->M' t g)(x:OY P K p B A F k M t g):OY P K p B A F' k M' t g:=by
 rcases x with ⟨a,g',b,c⟩|⟨a,b,g',c,d⟩|⟨a,b,c,g',d,e⟩|⟨a,b,g',c,d⟩|⟨m,a,b,c,d,⟨g',e,f⟩,g⟩|⟨a,b,g',c,d⟩|⟨a,b,c,g',d,e,f⟩|⟨a,b,g',c,d⟩|⟨a,b,g',c,d⟩
 .exact .inl ⟨a,g',b,h _ _ c⟩
 .exact .inr (.inl ⟨a,b,g',c,h _ _ d⟩)
 .exact .inr (.inr (.inl ⟨a,b,λm g g=>χ,g',d,h _ _ e⟩))
 .exact .inr (.inr (.inr (.inl ⟨a,b,g',c,h _ _ d⟩)))
 .exact .inr (.inr (.inr (.inr (.inl ⟨m,a,b,c,d,⟨g',e,h _ _ f⟩,λg g=>χ⟩))))
 .exact .inr (.inr (.inr (.inr (.inr (.inl ⟨a,b,g',c,h _ _ d⟩)))))
 .exact .inr (.inr (.inr (.inr (.inr (.inr (.inl ⟨a,b,c,g',d,e,h _ _ f⟩))))))
 .exact .inr (.inr (.inr (.inr (.inr (.inr (.inr (.inl ⟨a,b,g',c,h _ _ d⟩)))))))
 .exact .inr (.inr (.inr (.inr (.inr (.inr (.inr (.inr ⟨a,b,g',c,h _ _ d⟩)))))))
def NB.up:∀(n m:Nat)(t:Nat)(g:aV),n<=m->NB P K p B A Anchor F k n t g->NB P K p B A Anchor F k m t g
 |0,0,_,_,_,x=>x
 |0,_+1,_,_,_,x=>.inl x
 |n+1,0,_,_,h,_=>absurd h ω
 |n+1,m+1,_,_,h,x=>x.elim .inl λy=>.inr (y.mono (λ_ z=>z) λt g=>NB.up n m t g ω)
def WS.eq:WS P K p B A Anchor k=NB P K p B A Anchor (WF P K p B A Anchor k) k:=by
 cases k with
 |zero=>
  have:WF P K p B A Anchor 0=λ_=>False:=by funext g;simp[WF]
  rw[this];rfl
 |succ k=>
  have:WF P K p B A Anchor (k+1)=λg=>∃n,WS P K p B A Anchor k n 1 g:=by
   funext g;refine propext ⟨fun⟨a,n,e,h⟩=>?_,fun⟨n,h⟩=>⟨k,n,rfl,h⟩⟩;grind
  rw[this];rfl
def WS.up(h:WS P K p B A Anchor k n t g)(m:Nat)(a:n<=m):WS P K p B A Anchor k m t g:=by rw[WS.eq]at h ⊢;exact NB.up n m t g a h
def WS.one(h:OY P K p B A (WF P K p B A Anchor k) k (λt g=>WS P K p B A Anchor k n t g) t g):WS P K p B A Anchor k (n+1) t g:=by rw[WS.eq]at h ⊢;exact .inr h
def WS.inv(h:WS P K p B A Anchor k n t g):(t=8/\g.status=.running/\Anchor g)\/∃m,n=m+1/\OY P K p B A (WF P K p B A Anchor k) k (λt g=>WS P K p B A Anchor k m t g) t g:=by
 rw[WS.eq]at h;cases n with
 |zero=>exact .inl h
 |succ m=>exact h.elim .inl λx=>.inr ⟨m,rfl,by rw[WS.eq];exact x⟩
def WS.Oo(a:g.status=.running)(h:Anchor g):WS P K p B A Anchor k n 8 g:=by
 rw[WS.eq];cases n with
 |zero=>exact⟨rfl,a,h⟩
 |succ n=>exact .inl ⟨rfl,a,h⟩
def WS.running(h:WS P K p B A Anchor k n t g):g.status=.running:=by
 rcases h.inv with ⟨_,h,_⟩|⟨_,_,h⟩
 .exact h
 rcases h with ⟨h,_⟩|⟨_,h,_⟩|⟨_,h,_⟩|⟨_,h,_⟩|⟨_,_,_,_,h,_⟩|⟨_,h,_⟩|⟨_,h,_⟩|⟨_,h,_⟩|⟨_,h,_⟩<;>exact h
end
def Jy(k a:Nat)(ds:aN)(O:bU)(s m:Int):Prop:=
 (((a<=1/\ds.length<=k)\/∃j,a=100+j/\0<j/\j<=k/\ds.length<=j)/\(∀i,i∈ds->O i<=2)/\s=gv ds.length 0/\m=0)\/
 ((a=3\/a=4)/\(∀i,i∈ds->O i<=2)/\0<ds.length/\s=gv ds.length 1/\m=0)\/
 ((a=3\/a=4)/\(∃i,ds=[i]/\(O i=3\/O i=4))/\s=gv 0 1/\m=0)\/
 ((a=3\/a=4)/\(∃i,ds=[i]/\O i=5)/\s=gv 0 0/\m=0)\/
 ((a=3\/a=4)/\ds=[]/\s=gv 0 0/\m=1)\/
 (5<=a/\a<=8/\ds=[]/\s=gv 0 0/\m=0)
section
variable{P:aG}{K:cK}{p:dm}{B:Nat}{A:qt}{Anchor:kr}
theorem C3.slip(C:C3 P K p St B D A h ds O T I w q){i:Nat}(F:qT)(N:I[i]? =some g)(L:i≠h)(u:i∉ds)(R:D i=none)(c:g.status=.running):
 ∃E g' d Z,runT P (crowd I w F) i=(.next (crowd E w F),d)/\(∀op∈d,op.g=i)/\E.size=I.size/\(∀y,I[h]? =some y->E[h]? =some (woken P g g' w y))/\C3 P K p St B D A h ds O (T++d) E w Z/\sumTo I.size Z<sumTo I.size q:=by
 have J:i<I.size:=(cU.1 N).1;have W:=C.idle i g L u N;rw[R]at W;let⟨r,v⟩:=W;have M:(i==0)=false:=θ
 cases l:q i with
 |zero=>rw[l]at v;rw[v.1]at c;cases c
 |succ k=>
  rw[l]at v;rcases v with ⟨d,_⟩|⟨_,g',es,S,o,H⟩
  .simp_all
  have t:∀x,x≠i->x≠h->((I.map (woken P g g' w)).setIfInBounds i g')[x]? =I[x]? :=by
   intro x a G;rw[ku (λe=>a e.symm),sO];cases e:I[x]? with
   |none=>rfl
   |some y=>simp[woken_of_again (P:=P) (x:=g) (x':=g') (C.fixed G e)]
  have f:((I.map (woken P g g' w)).setIfInBounds i g')[i]? =some g':=Lt ξ;have X:∀x,x≠i->Deaf (T++MemOp.ofEvents i g.frame.fn g.frame.place es) x=Deaf T x:=λx a=>Deaf_other T (λz=>a z.symm) _ fM;have hp:=qF (g:=i) C.past (u:=MemOp.ofEvents i g.frame.fn g.frame.place es) fM (λop m b V=>by obtain⟨e,Q,rfl⟩:=Go.Conc.mem_ofEvents m;rw[touch_mute (S e Q)]at V;cases V) (λb=>ξ) (λop m=>by obtain⟨e,Q,rfl⟩:=Go.Conc.mem_ofEvents m;exact low_mute (S e Q) B);refine⟨_,g',_,upd q i k,runT_crowd_go (sl:=F) N (by rw[M];exact o w),fM,ψ,λy n=>?_,⟨λx y a hd n=>?_,λx a=>?_,C.nd,C.chans,C.wf,C.inj,λj U=>?_,C.low,C.zL,C.ss,hp,C.keep⟩,gW J l (az _)⟩
  .simp_all
  .by_cases e:x=i
   .subst e;rw[f]at n;obtain rfl:=Option.some.inj n;rw[R,upd_same];exact⟨r,by rw[Deaf_own];exact H⟩
   .rw[t x e a]at n;rw[upd_ne q k e];have:=C.idle x y a hd n;cases Y:D x with
    |none=>rw[Y]at this;exact⟨this.1,by rw[X x e];exact this.2⟩
    |some s=>rw[Y]at this;exact this
  .have e:x≠i:=λz=>u (z▸a);let⟨g,f,d,y,_,b,h⟩:=C.dep x a;exact⟨g,f,d,y,ξ,by rw[upd_ne q k e];exact b,ξ⟩
  .simp only[zb,Aq]at U;rw[X j ω];exact C.above j U
theorem Jm(e:Event)(x:wE p (λ_=>False) B 0 e):wE p (nG St (λg=>((λ_=>none:Nat->Option Seat) g).isSome)) B 0 e:=
 ⟨λy a=>⟨fun⟨g,b,_⟩=>(by cases b),(x.1 y a).2⟩,x.2⟩
theorem P5(J:JK K p B A):∀(L k S:Nat)(I:jH)(w:aj)(sl:qT)(T:Trace)(q:bU)(a0:aV)(bl:Bool)(tm nm:Nat)(ds:aN)(O:bU)(s m:Int),
 sumTo I.size q=L->2*nm+(if bl then 0 else 1)=S->I[0]? =some (if bl then{a0 with status:=.blocked} else a0)->C3 P K p St B (λ_=>none) A 0 ds O T I w q->WS P K p B A Anchor k nm tm a0->
 (bl=true->tm=4/\m=0/\a0.offers=none)->ds.length<=9999->Jy k tm ds O s m->ji .u64 A.st w s->ji .u32 A.se w m->Deaf T 0=dM tm->
 ∃N G X,runNT P N (crowd I w sl) T=(.next G,X)/\Joined P K p B A Anchor I.size G X:=by
 intro L;induction L using Nat.strongRecOn with
 |_ L Uq=>
 intro k;induction k using Nat.strongRecOn with
 |_ k VY=>
 intro S;induction S using Nat.strongRecOn with
 |_ S Xz=>
 intro I w sl T q a0 bl tm nm ds O s m hL hS h0 C hM KP h9 M l o tN;have V2:=hM.running;have L:0<I.size:=(cU.1 h0).1;by_cases KT:Anchor a0/\tm=8
 .obtain⟨hA,rfl⟩:=KT;have hb:bl=false:=by
   grind
  subst hb;obtain⟨rfl,rfl,rfl⟩:ds=[]/\s=gv 0 0/\m=0:=by
   rcases M with ⟨x,_⟩|⟨x,_⟩|⟨x,_⟩|⟨x,_⟩|⟨x,_⟩|⟨_,_,x,y,z⟩
   .omega
   .omega
   .omega
   .omega
   .omega
   grind
  exact⟨0,_,T,rfl,I,w,sl,q,a0,rfl,rfl,h0,hA,⟨λx y hx L=>C.idle x y hx ψ L,λi s c _ e=>(by cases e),λi s e=>(by cases e),λ_ _ z=>z.elim,λi R s s' c e=>(by cases e),C.above,λi s e=>(by cases e),λi hi=>hi.elim,λi s _ e=>(by cases e),⟨C.past.clean,λi a c hm=>.inl ((C.past.known i a c hm).elim id fun⟨_,g,_,hg,_⟩=>by cases hg),λ_ _ _ _ z=>z.elim,λ_ z=>z.elim,C.past.seen⟩,C.keep⟩,tN,l,o⟩
 have Qk:∃(i:Nat)(g:aV),I[i]? =some g/\g.status=.running:=by
  cases bl with
  |false=>exact⟨0,a0,h0,V2⟩
  |true=>
   let⟨_,a,_⟩:=KP rfl;have a:∃i,i∈ds:=by
    rcases M with ⟨x,_⟩|⟨_,_,x,_⟩|⟨_,⟨i,x,_⟩,_⟩|⟨_,⟨i,x,_⟩,_⟩|⟨_,_,_,x⟩|⟨x,_⟩
    .omega
    .exact List.exists_mem_of_length_pos x
    .exact⟨i,by rw[x];simp⟩
    .exact⟨i,by rw[x];simp⟩
    .omega
    .omega
   let⟨i,hi⟩:=a;let⟨_,_,_,g,hg,QR,_⟩:=C.dep i hi;exact⟨i,g,hg,QR.running⟩
 have Nz:∀g∈I,awake g:=by
  refine C.awake h0 ?_;cases bl with
  |false=>grind
  |true=>simp
 let⟨i,g,d,D,hi,hg,Qu⟩:=crowd_pick (P:=P) (w:=w) (sl:=sl) Nz Qk;have Cd:C3 P K p St B (λ_=>none) A 0 ds O T I (w.at d) q:=C.in (J.at' _ d C.keep) (λ_ _ _ e=>by cases e);have f:K (w.at d):=Cd.keep;have next:∀{a ops},runT P (crowd I (w.at d) D) i=(.next a,ops)->∀N,runNT P (N+1) (crowd I w sl) T=runNT P N a (T++ops):=λe N=>by simp only[runNT,Qu,e]
 by_cases e0:i=0
 .subst e0;have hb:bl=false:=by
   grind
  subst hb;obtain rfl:g=a0:=χ
  have step0:∀(t:aV)(w':aj)(es:dS),stepG P true g (w.at d)=.go t w' es->K w'->(∀e∈es,wE p (λ_=>False) B 0 e)->
   ∃E,runT P (crowd I (w.at d) D) 0=(.next (crowd E w' D),MemOp.ofEvents 0 g.frame.fn g.frame.place es)/\E.size=I.size/\E[0]? =some t/\C3 P K p St B (λ_=>none) A 0 ds O (T++MemOp.ofEvents 0 g.frame.fn g.frame.place es) E w' q/\Deaf (T++MemOp.ofEvents 0 g.frame.fn g.frame.place es) 0=deafBehind (dM tm) es:=by
   intro t w' es u hK Y7;let⟨C',Jc⟩:=Cd.own (a':=t) h0 hK (λ_ _ _ e=>by cases e) (λe he=>Jm e (Y7 e he));exact⟨_,runT_crowd_go (sl:=D) h0 u,ψ,Jc,C',by rw[Deaf_own,tN]⟩
  have main:∀(t:aV)(w':aj)(es:dS)(v:Bool)(c:aV)(a C:Nat)(s' G:Int),stepG P true g (w.at d)=.go t w' es->t=(if v then{c with status:=.blocked} else c)->K w'->(∀e∈es,wE p (λ_=>False) B 0 e)->deafBehind (dM tm) es=dM a->
   WS P K p B A Anchor k C a c->(v=true->a=4/\G=0/\c.offers=none)->Jy k a ds O s' G->ji .u64 A.st w' s'->ji .u32 A.se w' G->2*C+(if v then 0 else 1)<S->
   ∃N G X,runNT P N (crowd I w sl) T=(.next G,X)/\Joined P K p B A Anchor I.size G X:=by
   intro t w' es v c a C s' G u Jc hK Y7 Hi Vr L Q5 V W qN;let⟨E,Qo,U,QL,C',OQ⟩:=step0 t w' es u hK Y7;let⟨N,Q,TT,hr,hj⟩:=Xz _ qN E w' D _ q c v a C ds O s' G (by rw[U];exact hL) rfl (by rw[QL,Jc]) C' Vr L h9 Q5 V W ω;exact⟨N+1,Q,TT,by rw[next Qo];exact hr,by rw[<-U];exact hj⟩
  have H:∀{n:Nat},nm=n+1->2*n+1<S:=λe=>ω
  rcases hM.inv with ⟨rfl,hs,h⟩|⟨n,rfl,VR⟩
  .exact absurd ⟨h,rfl⟩ KT
  rcases VR with ⟨hs,g1,h,F⟩|⟨rfl,hs,g1,h,F⟩|⟨rfl,hs,KM,g1,OS,Vd⟩|⟨rfl,hs,g1,OS,Vd⟩|⟨j,j0,a,rfl,hs,⟨g1,h1,CH⟩,QN⟩|⟨rfl,hs,g1,h,F⟩|⟨rfl,hs,ho,g1,h1,OS,F⟩|⟨rfl,hs,g1,h,F⟩|⟨rfl,hs,g1,h,F⟩
  .let⟨es,h1,h2⟩:=h _ f;exact main _ _ es false _ _ _ s m h1 rfl f (λe he=>(h2 e he).1) (deafBehind_still (λe he=>(h2 e he).2) _) F (λz=>by cases z) M l o (H rfl)
  .refine main _ _ _ false _ _ _ s m (h _ f) rfl f (c8 (ij rfl trivial)) rfl F (λz=>by cases z) ?_ l o (H rfl);rcases M with ⟨x,y⟩|⟨x,_⟩|⟨x,_⟩|⟨x,_⟩|⟨x,_⟩|⟨x,_⟩
   .rcases x with x|⟨j,x,_⟩
    .exact .inl ⟨.inl ⟨ω,x.2⟩,y⟩
    .omega
   all_goals omega
  .rcases M with ⟨x,y1,rfl,rfl⟩|⟨x,_⟩|⟨x,_⟩|⟨x,_⟩|⟨x,_⟩|⟨x,_⟩
   .have xl:ds.length<=k:=by
     omega
    by_cases hz:ds.length=0
    .have Nb:=LI.1 hz;subst Nb;exact main _ _ _ false _ _ _ (gv 0 0) 0 (OS _ f l) rfl f (c8 (dz id J.yM)) rfl Vd (λz=>by cases z) (.inr (.inr (.inr (.inr (.inr ⟨ω,ω,rfl,rfl,rfl⟩))))) l o (H rfl)
    .let⟨g2,FU,QC⟩:=KM ds.length ω xl;refine main _ _ _ false _ _ _ (gv ds.length 0) 0 (FU _ f l) rfl f (c8 (dz id J.yM)) ?_ QC (λz=>by cases z) (.inl ⟨.inr ⟨ds.length,rfl,ω,xl,az _⟩,y1,rfl,rfl⟩) l o (H rfl);have:¬(100+ds.length=0\/100+ds.length=7\/100+ds.length=8):=ω
     simp only[dM,this,if_false];rfl
   all_goals omega
  .have hG:ds=[]/\s=gv 0 0/\m=0:=by
    rcases M with ⟨x,_⟩|⟨x,_⟩|⟨x,_⟩|⟨x,_⟩|⟨x,_⟩|⟨_,_,x,y,z⟩
    .omega
    .omega
    .omega
    .omega
    .omega
    .exact⟨x,y,z⟩
   obtain⟨rfl,rfl,rfl⟩:=hG;exact main _ _ _ false _ _ _ (gv 0 0) 0 (OS _ f l) rfl f (c8 (dz id J.yM)) rfl Vd (λz=>by cases z) (.inr (.inr (.inr (.inr (.inr ⟨ω,ω,rfl,rfl,rfl⟩))))) l o (H rfl)
  .have OM:dM (100+j)=1:=by
    have:¬(100+j=0\/100+j=7\/100+j=8):=ω
    simp only[dM,this,if_false]
   rcases M with ⟨x,y1,rfl,rfl⟩|⟨x,_⟩|⟨x,_⟩|⟨x,_⟩|⟨x,_⟩|⟨x,_⟩
   .have xl:ds.length<=j:=by
     omega
    by_cases hz:ds.length=j
    .subst hz;exact main _ _ _ false _ _ _ (gv ds.length 1) 0 (h1 _ f l) rfl (J.st _ _ f) (pg (dz id J.yM) (dz id J.yM)) (by rw[OM];rfl) CH (λz=>by cases z) (.inr (.inl ⟨.inl rfl,y1,j0,rfl,rfl⟩)) (kF l _) (fN o A.ne _) (H rfl)
    .let⟨g2,FU,c,a,C,QC⟩:=QN ds.length ω;let⟨E,Qo,U,QL,C',OQ⟩:=step0 g2 (w.at d) _ (FU _ f l) f (c8 (dz id J.yM));let⟨N,Q,TT,hr,hj⟩:=VY c ω _ E (w.at d) D _ q g2 false 1 a ds O (gv ds.length 0) 0 (by rw[U];exact hL) rfl (by rw[QL];rfl) C' QC (λz=>by cases z) h9 (.inl ⟨.inl ⟨ω,ω⟩,y1,rfl,rfl⟩) l o (by rw[OQ,OM];rfl);exact⟨N+1,Q,TT,by rw[next Qo];exact hr,by rw[<-U];exact hj⟩
   all_goals omega
  .refine main _ _ _ false _ _ _ s m (h _ f) rfl f (c8 ⟨λx hx=>?_,J.PR⟩) rfl F (λz=>by cases z) ?_ l o (H rfl)
   .have:(MemAct.ofEvent (uD (.write A.se))).touch? =some ⟨.cell A.se,true,.said⟩:=rfl;rw[this]at hx;obtain rfl:=Option.some.inj hx;simp
   .rcases M with ⟨x,_⟩|⟨x,y⟩|⟨x,y⟩|⟨x,y⟩|⟨x,y⟩|⟨x,_⟩
    .omega
    .exact .inr (.inl ⟨.inr rfl,y⟩)
    .exact .inr (.inr (.inl ⟨.inr rfl,y⟩))
    .exact .inr (.inr (.inr (.inl ⟨.inr rfl,y⟩)))
    .exact .inr (.inr (.inr (.inr (.inl ⟨.inr rfl,y⟩))))
    .omega
  .have hm:m=0\/(m=1/\ds=[]/\s=gv 0 0):=by
    rcases M with ⟨_,_,_,x⟩|⟨_,_,_,_,x⟩|⟨_,_,_,x⟩|⟨_,_,_,x⟩|⟨_,x,y,z⟩|⟨_,_,_,_,x⟩
    .exact .inl x
    .exact .inl x
    .exact .inl x
    .exact .inl x
    .exact .inr ⟨z,x,y⟩
    omega
   rcases hm with rfl|⟨rfl,rfl,rfl⟩
   .exact main _ _ _ true g 4 (n+1) s 0 (OS _ f o) rfl f oa rfl (WS.one (.inr (.inr (.inr (.inr (.inr (.inr (.inl ⟨rfl,hs,ho,g1,h1,OS,F⟩)))))))) (λ_=>⟨rfl,rfl,ho⟩) M l o (by simp at hS ⊢;omega)
   .exact main _ _ _ false _ _ _ (gv 0 0) 0 (h1 _ f o) rfl (J.se _ _ f) (Gs (ij rfl trivial) (dz id J.PR) (dz id J.PR) (ij rfl trivial)) rfl F (λz=>by cases z) (.inr (.inr (.inr (.inr (.inr ⟨ω,ω,rfl,rfl,rfl⟩))))) (fN l (λz=>A.ne z.symm) _) (kF o _) (H rfl)
  .have hG:ds=[]/\s=gv 0 0/\m=0:=by
    rcases M with ⟨x,_⟩|⟨x,_⟩|⟨x,_⟩|⟨x,_⟩|⟨x,_⟩|⟨_,_,x,y,z⟩
    .omega
    .omega
    .omega
    .omega
    .omega
    .exact⟨x,y,z⟩
   obtain⟨rfl,rfl,rfl⟩:=hG;exact main _ _ _ false _ _ _ (gv 0 0) 0 (h _ f) rfl f (c8 (ij rfl trivial)) rfl F (λz=>by cases z) (.inr (.inr (.inr (.inr (.inr ⟨ω,ω,rfl,rfl,rfl⟩))))) l o (H rfl)
  .have hG:ds=[]/\s=gv 0 0/\m=0:=by
    rcases M with ⟨x,_⟩|⟨x,_⟩|⟨x,_⟩|⟨x,_⟩|⟨x,_⟩|⟨_,_,x,y,z⟩
    .omega
    .omega
    .omega
    .omega
    .omega
    .exact⟨x,y,z⟩
   obtain⟨rfl,rfl,rfl⟩:=hG;exact main _ _ _ false _ _ _ (gv 0 0) 0 (h _ f) rfl f (c8 (ij rfl J.yM)) rfl F (λz=>by cases z) (.inr (.inr (.inr (.inr (.inr ⟨ω,ω,rfl,rfl,rfl⟩))))) l o (H rfl)
 have wk:∀(g':aV)(w':aj),∃v,woken P g g' w' (if bl then{a0 with status:=.blocked} else a0)=(if v then{a0 with status:=.blocked} else a0)/\(v=true->bl=true/\¬(mayWake P g=true/\g'.status=.running)):=by
  intro g' w';cases bl with
  |false=>exact⟨false,by simp only[sP,if_false];exact woken_of_again (again_running _ (.inl V2)),λz=>by cases z⟩
  |true=>
   let⟨_,_,ho⟩:=KP rfl;rcases sY P g g' w' V2 ho with x|⟨x,y⟩
   .exact⟨false,χ,λz=>by cases z⟩
   .exact⟨true,χ,λ_=>⟨rfl,y⟩⟩
 by_cases b:i∈ds
 .let⟨d1,d2,_,g',d4,d5,Y⟩:=Cd.dep i b;rw[hi]at d4;obtain rfl:=Option.some.inj d4;have qN:i<I.size:=(cU.1 hi).1;let⟨n,Xo,hD⟩:=d5.inv;have hm0:m=0:=by
   rcases M with ⟨_,_,_,x⟩|⟨_,_,_,_,x⟩|⟨_,_,_,x⟩|⟨_,_,_,x⟩|⟨_,x,_⟩|⟨_,_,x,_⟩
   .exact x
   .exact x
   .exact x
   .exact x
   .rw[x]at b;cases b
   omega
  subst hm0
  have g9:∀(t:aV)(w':aj)(es:dS)(s' G:Int),stepG P false g (w.at d)=.go t w' es->K w'->(∀e∈es,(∀x,(MemAct.ofEvent e).touch? =some x->x.kind=.atomic/\p x.loc)/\(MemAct.ofEvent e).low B)->uc (Deaf T i) es->QuitsD P n (deafBehind (Deaf T i) es) t->
   ((bl=true->G=0)\/(mayWake P g=true/\t.status=.running))->Jy k tm (ds.erase i) O s' G->ji .u64 A.st w' s'->ji .u32 A.se w' G->∃N G X,runNT P N (crowd I w sl) T=(.next G,X)/\Joined P K p B A Anchor I.size G X:=by
   intro t w' es s' G u hK Y7 Vp hQ Qe Q5 V W;let⟨E,f1,f2,f3,f4,f5,_,f7⟩:=Cd.BB D b hi u hK (λ_ _ _ e=>by cases e) Y7 Vp;let⟨v,Dz,Qf⟩:=wk t w';let⟨N,Q,TT,hr,hj⟩:=Uq (sumTo E.size (upd q i n)) (by rw[f2];have:=gW (q:=q) qN Xo (az n);omega) k _ E w' D _ (upd q i n) a0 v tm nm (ds.erase i) O s' G rfl rfl (by rw[f4 _ h0,Dz]) (f7 n hQ) hM (λz=>by
    let⟨b1,a⟩:=Qf z;let⟨c1,_,c3⟩:=KP b1;exact⟨c1,Qe.elim (λy=>y b1) λy=>absurd y a,c3⟩) (aT List.length_erase_le h9) Q5 V W (by rw[Deaf_other T e0 _ fM];exact tN)
   exact⟨N+1,Q,TT,by rw[next f1];exact hr,by rw[<-f2];exact hj⟩
  have stay:∀(t:aV)(w':aj)(es:dS)(t':Nat)(s':Int),stepG P false g (w.at d)=.go t w' es->K w'->(∀e∈es,(∀x,(MemAct.ofEvent e).touch? =some x->x.kind=.atomic/\p x.loc)/\(MemAct.ofEvent e).low B)->uc (Deaf T i) es->DP P K A n t' t->deafBehind (Deaf T i) es=dC t'->
   Jy k tm ds (upd O i t') s' 0->ji .u64 A.st w' s'->ji .u32 A.se w' 0->∃N G X,runNT P N (crowd I w sl) T=(.next G,X)/\Joined P K p B A Anchor I.size G X:=by
   intro t w' es t' s' u hK Y7 Vp QR Hi Q5 V W;let⟨E,f1,f2,f3,f4,f5,f6,_⟩:=Cd.BB D b hi u hK (λ_ _ _ e=>by cases e) Y7 Vp;let⟨v,Dz,Qf⟩:=wk t w';let⟨N,Q,TT,hr,hj⟩:=Uq (sumTo E.size (upd q i n)) (by rw[f2];have:=gW (q:=q) qN Xo (az n);omega) k _ E w' D _ (upd q i n) a0 v tm nm ds (upd O i t') s' 0 rfl rfl (by rw[f4 _ h0,Dz]) (f6 n t' QR Hi) hM (λz=>by
    let⟨b1,_⟩:=Qf z;let⟨c1,_,c3⟩:=KP b1;exact⟨c1,rfl,c3⟩) h9 Q5 V W (by rw[Deaf_other T e0 _ fM];exact tN)
   exact⟨N+1,Q,TT,by rw[next f1];exact hr,by rw[<-f2];exact hj⟩
  have PT:∀t',O i<=2->t'<=2->Jy k tm ds (upd O i t') s 0:=by
   intro t' h1 h2;have up:∀a,a<=2->(∀x,x∈ds->O x<=2)->∀x,x∈ds->upd O i a x<=2:=λa h hx x Uy=>by
    by_cases e:x=i
    .subst e;rw[upd_same];exact h
    .rw[upd_ne _ _ e];exact hx x Uy
   rcases M with ⟨x,y,z⟩|⟨x,y,z⟩|⟨_,⟨R,x,y⟩,_⟩|⟨_,⟨R,x,y⟩,_⟩|⟨_,x,_⟩|⟨_,_,x,_⟩
   .exact .inl ⟨x,up t' h2 y,z⟩
   .exact .inr (.inl ⟨x,up t' h2 y,z⟩)
   .rw[x]at b;simp at b;subst b;omega
   .rw[x]at b;simp at b;subst b;omega
   .omega
   .rw[x]at b;cases b
  rcases hD with ⟨_,t,r,F⟩|⟨ht,_,t,r,F⟩|⟨ht,_,t,r,F⟩|⟨ht,_,Q1,a1,UE,CH⟩|⟨ht,_,t,r,F⟩|⟨ht,_,t,r,F⟩|⟨ht,_,hw,t,Y6,r,F⟩
  .refine stay t _ _ (O i) s (r _ f) f oa (iQ oa) F (by rw[Y];rfl) ?_ l o;have:upd O i (O i)=O:=by
    funext x;by_cases e:x=i
    .subst e;rw[upd_same]
    .rw[upd_ne _ _ e]
   rw[this];exact M
  .exact stay t _ _ 1 s (r _ f) f (c8 (jS rfl J.yM)) (iQ (c8 rfl)) F (by rw[Y,ht];rfl) (PT 1 ω ω) l o
  .exact stay t _ _ 2 s (r _ f) f (c8 (jS rfl trivial)) (iQ (c8 rfl)) F (by rw[Y,ht];rfl) (PT 2 ω ω) l o
  .rw[ht]at Y;have hlen:(ds.erase i).length=ds.length-1:=List.length_erase_of_mem b;have Qt:=LF b;have FQ:uc (Deaf T i) #[tF A.st,Dt A.st]:=mR (by rw[Y];decide) ψ;rcases M with ⟨x,y,rfl,_⟩|⟨x,y,_,rfl,_⟩|⟨_,⟨R,x,y⟩,_⟩|⟨_,⟨R,x,y⟩,_⟩|⟨_,x,_⟩|⟨_,_,x,_⟩
   .obtain⟨Q,QG⟩:∃Q,ds.length=Q+1:=⟨ds.length-1,(LA Qt).symm⟩
    let⟨t,r,hq⟩:=Q1 Q 0 ω ω (.inl rfl);rw[QG]at l;refine g9 t _ _ (gv Q 0) 0 (r _ f l) (J.st _ _ f) (pg (cL J.yz J.yM) (cL J.yz J.yM)) FQ (by rw[Y];exact hq) (.inl λ_=>rfl) (.inl ⟨?_,λx hx=>y x (Hy hx),by rw[hlen,QG];rfl,rfl⟩) (kF l _) (fN o A.ne _);rcases x with ⟨c,a⟩|⟨j,c,a,e,g⟩
    .omega
    .exact .inr ⟨j,c,a,e,ω⟩
   .by_cases h1:ds.length=1
    .rw[h1]at l;let⟨R,KG⟩:=List.length_eq_one_iff.1 h1;have:R=i:=by rw[KG]at b;exact(wP.1 b).symm
     subst this;exact stay a1 _ _ 3 (gv 0 1) (UE _ f l) (J.st _ _ f) (pg (cL J.yz J.yM) (cL J.yz J.yM)) FQ CH (by rw[Y];rfl) (.inr (.inr (.inl ⟨x,⟨R,KG,by rw[upd_same];omega⟩,rfl,rfl⟩))) (kF l _) (fN o A.ne _)
    .obtain⟨Q,QG⟩:∃Q,ds.length=Q+1:=⟨ds.length-1,(LA Qt).symm⟩
     let⟨t,r,hq⟩:=Q1 Q 1 ω ω (.inr ω);rw[QG]at l;exact g9 t _ _ (gv Q 1) 0 (r _ f l) (J.st _ _ f) (pg (cL J.yz J.yM) (cL J.yz J.yM)) FQ (by rw[Y];exact hq) (.inl λ_=>rfl) (.inr (.inl ⟨x,λx hx=>y x (Hy hx),ω,by rw[hlen,QG];rfl,rfl⟩)) (kF l _) (fN o A.ne _)
   .rw[x]at b;simp at b;subst b;omega
   .rw[x]at b;simp at b;subst b;omega
   .omega
   .rw[x]at b;cases b
  .rw[ht]at Y;rcases M with ⟨_,y,_⟩|⟨_,y,_⟩|⟨x0,⟨R,x,y⟩,rfl,_⟩|⟨_,⟨R,x,y⟩,_⟩|⟨_,x,_⟩|⟨_,_,x,_⟩
   .have:=y i b;omega
   .have:=y i b;omega
   .have:R=i:=by rw[x]at b;exact(wP.1 b).symm
    subst this;exact stay t _ _ 4 (gv 0 1) (r _ f l) f (c8 (cL J.yz J.yM)) (mR (by rw[Y];decide) ψ) F (by rw[Y];rfl) (.inr (.inr (.inl ⟨x0,⟨R,x,by rw[upd_same];omega⟩,rfl,rfl⟩))) l o
   .rw[x]at b;simp at b;subst b;omega
   .omega
   .rw[x]at b;cases b
  .rw[ht]at Y;rcases M with ⟨_,y,_⟩|⟨_,y,_⟩|⟨x0,⟨R,x,y⟩,rfl,_⟩|⟨_,⟨R,x,y⟩,_⟩|⟨_,x,_⟩|⟨_,_,x,_⟩
   .have:=y i b;omega
   .have:=y i b;omega
   .have:R=i:=by rw[x]at b;exact(wP.1 b).symm
    subst this;exact stay t _ _ 5 (gv 0 0) (r _ f l) (J.st _ _ f) (c8 (cL J.yz J.yM)) (mR (by rw[Y];decide) ψ) F (by rw[Y];rfl) (.inr (.inr (.inr (.inl ⟨x0,⟨R,x,by rw[upd_same]⟩,rfl,rfl⟩)))) (kF l _) (fN o A.ne _)
   .rw[x]at b;simp at b;subst b;omega
   .omega
   .rw[x]at b;cases b
  .rw[ht]at Y;rcases M with ⟨_,y,_⟩|⟨_,y,_⟩|⟨_,⟨R,x,y⟩,_⟩|⟨x0,⟨R,x,y⟩,rfl,_⟩|⟨_,x,_⟩|⟨_,_,x,_⟩
   .have:=y i b;omega
   .have:=y i b;omega
   .rw[x]at b;simp at b;subst b;omega
   .have:R=i:=by rw[x]at b;exact(wP.1 b).symm
    subst this;exact g9 t _ _ (gv 0 0) 1 (r _ f o) (J.se _ _ f) (Gs (jS rfl trivial) (cL J.Pf J.PR) (cL J.Pf J.PR) (jS rfl trivial)) (FP (by rw[Y];decide) _) (by rw[Y];exact F) (.inr ⟨hw,Y6⟩) (.inr (.inr (.inr (.inr (.inl ⟨x0,by rw[x];simp,rfl,rfl⟩))))) (fN l (λz=>A.ne z.symm) _) (kF o _)
   .omega
   .rw[x]at b;cases b
 .let⟨E,g',ops,Z,Qo,UY,U,OL,C',qN⟩:=Cd.slip D hi e0 b rfl hg;let⟨v,Dz,Qf⟩:=wk g' (w.at d);let⟨N,Q,TT,hr,hj⟩:=Uq (sumTo E.size Z) (by rw[U];omega) k _ E (w.at d) D _ Z a0 v tm nm ds O s m rfl rfl (by rw[OL _ h0,Dz]) C' hM (λz=>KP (Qf z).1) h9 M l o (by rw[Deaf_other T e0 _ UY];exact tN);exact⟨N+1,Q,TT,by rw[next Qo];exact hr,by rw[<-U];exact hj⟩
end
end Go.Proofs.YtobagnjnbmgidabGreatDoor
