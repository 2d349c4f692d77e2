import Derived.Test.YtobagnjnbmgidaaGreatDoorG1
set_option linter.all false
namespace Go.Proofs.YtobagnjnbmgidaaGreatDoor
section
open Go.Conc
open Go.ConcN (sumTo upd sumTo_upd upd_ne upd_same)
section
variable{P:Program}{Post:Value→World→Prop}{K K' Q Q':World→Prop}{Shun:Loc→Prop}{St uB:Nat→Loc→Prop}{B:Nat}{Inb qO:Nat→Option Seat}{Gp:rR}{h j c k kk L nb n:Nat}{ds iU:List Nat}{sg pW:Nat→Nat}{T T':Trace}{gs bQ:Array Goroutine}{w w':World}{q q':Nat→Nat}{a a₂ g:Goroutine}{s:Seat}{v z z':Value}{es:Array Event}
theorem C3.passed(C:C3 P K Shun St B Inb Gp h ds sg T gs w q)(jI:∀x,x≠h→x≠j→bQ[x]? =gs[x]?)(hI:∀x,x≠h→x≠j→qO x=Inb x)(hIj:qO j=none)(Cy:∀x,x≠h→x≠j→uB x=St x)(Ej:∀x,x≠h→(x∈iU↔x∈ds))(uS:j≠h)(Oc:j∉ds)(wX:iU.Nodup)(oL:∀x,x≠h→pW x=sg x)(hq:∀x,x≠h→q' x=q x)(hD:∀x,Deaf T' x=Deaf T x)(PW:∀x,bQ.size≤x→gs.size≤x)(hh:(h∉iU∧∃g,bQ[h]? =some g∧Idle P K (uB h) B T' h (q' h) g (qO h))∨(h∈iU∧0<h∧qO h=none∧∃g,bQ[h]? =some g∧DP P K Gp (q' h) (pW h) g∧Deaf T' h=dC (pW h)))(eC:∀i s c,qO i=some s→s.has c→∃cap k,w'.heap[c]? =some (.chan cap #[] false k k false))(cD:∀s,qO h=some s→s.Wf)(tM:∀i s s' c,qO h=some s→i≠h→i≠j→Inb i=some s'→s.has c→¬s'.has c)(gI:∀s c,qO h=some s→s.has c→c<B)(LK:∀l,(qO h).isSome→uB h l→¬Shun l)(hp:P3 Shun uB (fun g=>(qO g).isSome) B j T')(hK:K w'):C3 P K Shun uB B qO Gp j iU pW T' bQ w' q':=by
 have nQ:∀i s,qO i=some s→(i=h)∨(i≠h∧i≠j∧Inb i=some s):=fun i s e=>by
  by_cases e1:i=h
  ·exact .inl e1
  ·have e2:i≠j:=fun z=>by rw[z,hIj] at e;cases e
   exact .inr ⟨e1,e2,by rw[←hI i e1 e2];exact e⟩
 refine⟨fun x y hx hd hy=>?_,fun x hx=>?_,wX,eC,fun i s e=>?_,fun i i' s s' c e1 e2 h1 h2=>?_,fun x hx=>by rw[hD];exact C.above x (PW x hx),fun i s c e hc=>?_,hIj,fun i l hs hl=>?_,hp,hK⟩
 ·by_cases e:x=h
  ·subst e
   rcases hh with ⟨_,g,hg,dz⟩|⟨gC,_⟩
   ·rw[hg] at hy;obtain rfl:=Option.some.inj hy;exact dz
   ·exact absurd gC hd
  ·rw[jI x e hx] at hy
   have:=C.idle x y e (fun z=>hd ((Ej x e).2 z)) hy;rw[hI x e hx,Cy x e hx,hq x e];cases ei:Inb x with
   |none=>rw[ei] at this;exact⟨this.1,by rw[hD];exact this.2⟩
   |some s=>rw[ei] at this;exact this
 ·by_cases e:x=h
  ·subst e
   rcases hh with ⟨hn,_⟩|⟨_,h0,hn,g,hg,cG,vC⟩
   ·exact absurd hx hn
   ·exact⟨fun z=>uS z.symm,h0,hn,g,hg,cG,vC⟩
  ·have pG:=(Ej x e).1 hx
   have XS:x≠j:=fun z=>Oc (z▸pG)
   obtain⟨h1,h2,h3,g,h4,h5,h6⟩:=C.dep x pG;exact⟨XS,h2,by rw[hI x e XS];exact h3,g,by rw[jI x e XS];exact h4,by rw[hq x e,oL x e];exact h5,by rw[hD,oL x e];exact h6⟩
 ·rcases nQ i s e with rfl|⟨_,_,e'⟩
  ·exact cD s e
  ·exact C.wf i s e'
 ·rcases nQ i s e1 with rfl|⟨i1,i2,Tq⟩<;>rcases nQ i' s' e2 with rfl|⟨i3,i4,Tp⟩
  ·rfl
  ·exact absurd h2 (tM i' s s' c e1 i3 i4 Tp h1)
  ·exact absurd h1 (tM i s' s c e2 i1 i2 Tq h2)
  ·exact C.inj i i' s s' c Tq Tp h1 h2
 ·rcases nQ i s e with rfl|⟨_,_,e'⟩
  ·exact gI s c e hc
  ·exact C.low i s c e' hc
 ·obtain⟨s,e⟩:=Option.isSome_iff_exists.1 hs
  rcases nQ i s e with rfl|⟨i1,i2,e'⟩
  ·exact LK l hs hl
  ·exact C.ss i l (by rw[e'];rfl) (by rw[←Cy i i1 i2];exact hl)
def T1(P:Program)(K:World→Prop)(Shun:Loc→Prop)(St:Nat→Loc→Prop)(B:Nat)(Inb:Nat→Option Seat)(Gp:rR)(L nb h j:Nat)(a₂:Goroutine)(s:Seat)(c kk k n:Nat)(v:Value)(w:World)(m:Machine)(t:Trace):Prop:=
 ∃(bQ gs₀:Array Goroutine)(g₂:Goroutine)(d:Nat)(fN:Option (Nat×Nat))(q':Nat→Nat)(ds:List Nat)(sg:Nat→Nat)(T₀ ops₀:Trace)(fh:FuncId)(ph:String)(fj:FuncId)(pj:String),m=crowd bQ (Wv Gp ((w.at d).setChan c 0 #[] false (k+1) (k+1) false) (L+ds.length)) fN∧
   t=T₀++(ops₀++met h j fh ph fj pj c k 0)∧bQ.size=n∧gs₀.size=n∧bQ[h]? =some (Go.Conc.served a₂ undef)∧bQ[j]? =some (Go.Conc.served g₂ (commResult s.cases s.shape kk v true))∧s.home g₂∧(∀x,x≠h→x≠j→bQ[x]? =gs₀[x]?)∧L+ds.length≤nb∧(∀i,i∈ds→sg i≤2)∧
   C3 P K Shun St B Inb Gp h ds sg T₀ gs₀ (Wv Gp (w.at d) (L+ds.length)) q'∧P3 Shun St (fun g=>(Inb g).isSome) B h (T₀++ops₀)∧(∀x,Deaf (T₀++ops₀) x=Deaf T₀ x)∧Deaf T₀ h=0
theorem sH(G:GK K Shun Gp)(hK:K w)(hc:w.heap[c]? =some (.chan 0 #[] false k k false))(m x:Nat):(Wv Gp w m).setChan c 0 #[] false x x false=Wv Gp (w.setChan c 0 #[] false x x false) m:=
 wy w (fun e=>by obtain⟨cs,el,f,hr⟩:=(G.row w hK).1;rw[e,hc] at hr;cases hr) _ _ _ _ _ _ _
theorem xy(G:GK K Shun Gp)(hB:Gp.st.block<B)(gS:nb≤9)(uS:j≠h)(hj:Inb j=some s)(hk:s.cases[kk]? =some (rcase c z))(hc:w.heap[c]? =some (.chan 0 #[] false k k false)):
 ∀(μ:Nat)(gs:Array Goroutine)(T:Trace)(q:Nat→Nat)(sl:Option (Nat×Nat))(d₀:Nat)(ds:List Nat)(sg:Nat→Nat),sumTo gs.size q=μ→j<gs.size→gs[h]? =some (parked a₂ #[scase c v z'] .send)→0<q j→L+ds.length≤nb→(∀i,i∈ds→sg i≤2)→Deaf T h=0→
   C3 P K Shun St B Inb Gp h ds sg T gs (Wv Gp (w.at d₀) (L+ds.length)) q→∃N m' T',runNT P N (crowd gs (Wv Gp (w.at d₀) (L+ds.length)) sl) T=(.next m',T')∧T1 P K Shun St B Inb Gp L nb h j a₂ s c kk k gs.size v w m' T':=by
 intro μ
 induction μ using Nat.strongRecOn with
 |_ μ ih=>
  intro gs T q sl d₀ ds sg hμ Ka ha hqj hL oL vC C;have Oc:j∉ds:=fun e=>by rw[(C.dep j e).2.2.1] at hj;cases hj
  have Iy:gs[j]? =some gs[j]:=Array.getElem?_eq_getElem Ka;have hS:Sits P (j==0) K (St j) B s (q j) gs[j]:=by have:=C.idle j _ uS Oc Iy;rwa[hj] at this
  have fM:gs[j].status=.running:=(Go.Conc.Sits.status C.keep hS).elim (·.1) fun x=>by omega
  obtain⟨i,g,d,fN,hi,hg,tL⟩:=crowd_pick (P:=P) (w:=Wv Gp (w.at d₀) (L+ds.length)) (sl:=sl) (C.awake ha (.inr rfl)) ⟨j,_,Iy,fM⟩;have oA:stepT P (crowd gs (Wv Gp (w.at d₀) (L+ds.length)) sl)=runT P (crowd gs (Wv Gp (w.at d) (L+ds.length)) fN) i:=tL;have Cd:C3 P K Shun St B Inb Gp h ds sg T gs (Wv Gp (w.at d) (L+ds.length)) q:=C.in (G.at' _ d C.keep) (fun _ _ _ _ _=>rfl);have eU:K (w.at d):=(jG G).1 Cd.keep;have Hi:(w.at d).heap[c]? =some (.chan 0 #[] false k k false):=hc;have PT:∀m,(Wv Gp (w.at d) m).heap[c]? =some (.chan 0 #[] false k k false):=fun m=>(fE G eU m Hi).trans Hi
  have p7:=PT (L+ds.length);have J8:h<gs.size:=(Array.getElem?_eq_some_iff.1 ha).1;have Cs:i≠h:=fun e=>by subst e;rw[ha] at hi;obtain rfl:=Option.some.inj hi;cases hg
  have cD:=C.wf j s hj
  by_cases ej:i=j∧∃g₂,AtIn P (i==0) K (St i) B s g g₂
  ·obtain⟨rfl,g₂,nD⟩:=ej
   obtain⟨_,_,_,_,Sf,esj,W8,wR⟩:=nD;obtain⟨gU,hr,hl,hd⟩:=evC_ops (i:=i) (fn:=g.frame.fn) (pos:=g.frame.place) W8
   have hp:partners (gs.setIfInBounds i ph) c true=[(h,0)]:=by
    rw[partners_one (stand_get (Ne.symm uS) ha) fun x y LF hy=>by
     rcases getElem?_stand gs i x y hy with ⟨_,rfl⟩|⟨_,Is⟩
     ·exact offersAt_ph _ _
     ·exact Cd.noSend LF Is _]
    simp[offersAt_parked_send]
   have ho:∀(m:Nat)(c':CommCase),m≠kk→s.cases[m]? =some c'→NoWays (Wv Gp (w.at d) (L+ds.length)) (gs.setIfInBounds i ph) c':=by
    intro m c' hm eP;obtain⟨c₂,z₂,rfl⟩:=cD.recvs c' (Array.mem_of_getElem? eP);have aN:c≠c₂:=fun ec=>sW cD hk m _ hm eP (by rw[ec];rfl)
    obtain⟨cap₂,k₂,hc₂⟩:=Cd.chans i s c₂ hj ⟨m,z₂,eP⟩;refine ways_recv_none hc₂ (partners_nil fun x y hy=>?_);rcases getElem?_stand gs i x y hy with ⟨_,rfl⟩|⟨_,Is⟩
    ·exact offersAt_ph _ _
    ·by_cases LF:x=h
     ·subst LF
      rw[ha] at Is;obtain rfl:=Option.some.inj Is;rw[offersAt_parked_send,if_neg aN]
     ·exact Cd.noSend LF Is _
   have sv:=crowd_sel_recv_meets (sl:=fN) hi (wR _ Cd.keep) hk ho p7 (Ne.symm uS) ha hp;have yT:(Inb i).isSome:=by rw[hj];rfl
   refine⟨1,_,_,Ju (oA.trans sv),_,gs,g₂,d,fN,q,ds,sg,T,_,_,_,_,_,by rw[sH G eU Hi],rfl,by simp,rfl,?_,?_,Sf,fun x hx It=>?_,hL,oL,Cd,rY C.past gU (fun op aQ b hb=>⟨(hr op aQ b hb).1,yT,(hr op aQ b hb).2⟩) (fun _=>hd T) hl,fun x=>?_,vC⟩
   ·rw[Array.getElem?_setIfInBounds_ne uS,Array.getElem?_setIfInBounds_self_of_lt J8,finishComm_send]
   ·rw[Array.getElem?_setIfInBounds_self_of_lt (by simpa using Ka),finishComm_served]
   ·rw[Array.getElem?_setIfInBounds_ne (fun z=>It z.symm),Array.getElem?_setIfInBounds_ne (fun z=>hx z.symm)]
   ·by_cases ex:x=i
    ·subst ex;exact hd T
    ·exact Deaf_other T (fun z=>ex z.symm) _ gU
  ·obtain⟨bQ,ops,q',iU,pW,sv,gU,cU,G8,hqo,Cm,C',NU,hle,aT⟩:=Cd.by (sl:=fN) G hB (by omega) oL hi Cs hg (fun gx m vB=>by rw[ha] at vB;obtain rfl:=Option.some.inj vB;exact again_send_open (PT m))
    (fun s' g₂ fJ nD gx c' vB eP=>by
      rw[ha] at vB;obtain rfl:=Option.some.inj vB;rw[offersAt_parked_send,if_neg];intro ec;have Iw:i=j:=C.inj i j s' s c fJ hj (ec▸eP) ⟨kk,z,hk⟩;subst Iw;rw[hj] at fJ;obtain rfl:=Option.some.inj fJ;exact ej ⟨rfl,g₂,nD⟩)
   have dQ:0<q' j:=by
    by_cases Iw:j=i
    ·subst Iw
     rcases Nat.eq_zero_or_pos (q' j) with h0|h0
     ·obtain⟨g₂,nD⟩:=Cm s hj h0
      exact absurd ⟨rfl,g₂,nD⟩ ej
     ·exact h0
    ·rw[hqo j Iw];exact hqj
   obtain⟨N,m',T',h1,h2⟩:=ih (sumTo bQ.size q') (by rw[cU];omega) bQ _ q' fN d iU pW rfl (by rw[cU];exact Ka) (by rw[G8];exact ha) dQ (by omega) NU (by rw[Deaf_other T Cs _ gU];exact vC) C';exact⟨N+1,m',T',by simp only[runNT,oA,sv];exact h1,by rw[←cU];exact h2⟩
theorem Mh(G:GK K Shun Gp)(hB:Gp.st.block<B)(gS:nb≤9)(uS:j≠h)(hj:Inb j=some s)(hk:s.cases[kk]? =some (rcase c z))(hc:w.heap[c]? =some (.chan 0 #[] false k k false))(fM:a.status=.running)(hsend:∀d m,K (w.at d)→stepG P (h==0) a (Wv Gp (w.at d) m)=.comm a₂ #[scase c v z'] true .send (Wv Gp (w.at d) m) es)(fu:∀e∈es,xN Shun (oI St (fun g=>(Inb g).isSome)) B h e∧e.loc≠.mark .disable∧e.loc≠.mark .enable)(gs:Array Goroutine)(T:Trace)(q:Nat→Nat)(sl:Option (Nat×Nat))(d₀:Nat)(ds:List Nat)(sg:Nat→Nat)(Ka:j<gs.size)(ha:gs[h]? =some a)(hL:L+ds.length≤nb)(oL:∀i,i∈ds→sg i≤2)(vC:Deaf T h=0)(C:C3 P K Shun St B Inb Gp h ds sg T gs (Wv Gp (w.at d₀) (L+ds.length)) q):
 ∃N m' T',runNT P N (crowd gs (Wv Gp (w.at d₀) (L+ds.length)) sl) T=(.next m',T')∧T1 P K Shun St B Inb Gp L nb h j a₂ s c kk k gs.size v w m' T':=by
 obtain⟨N,gs₁,d₁,d,sl₁,fN,T₁,q₁,ds₁,sg₁,e1,e2,e3,e4,e5,e6,Cd,e8⟩:=mT G hB gS fM _ gs T q sl d₀ ds sg rfl ha hL oL C;have eU:K (w.at d):=(jG G).1 Cd.keep;have Hi:(w.at d).heap[c]? =some (.chan 0 #[] false k k false):=hc;have p7:(Wv Gp (w.at d) (L+ds₁.length)).heap[c]? =some (.chan 0 #[] false k k false):=(fE G eU _ Hi).trans Hi;have J8:h<gs₁.size:=(Array.getElem?_eq_some_iff.1 e4).1;have Oc:j∉ds₁:=fun e=>by rw[(Cd.dep j e).2.2.1] at hj;cases hj
 have G6:j<gs₁.size:=by omega
 have Iy:gs₁[j]? =some gs₁[j]:=Array.getElem?_eq_getElem G6;have cD:=Cd.wf j s hj;have hS:Sits P (j==0) K (St j) B s (q₁ j) gs₁[j]:=by have:=Cd.idle j _ uS Oc Iy;rwa[hj] at this
 have ZZ:Deaf T₁ h=0:=e8.trans vC;have N1:P3 Shun St (fun g=>(Inb g).isSome) B h (T₁++MemOp.ofEvents h a.frame.fn a.frame.place es):=Ak Cd.past (fun e he=>(fu e he).1) (by rw[Cd.Ao];simp);have Oi:Deaf (T₁++MemOp.ofEvents h a.frame.fn a.frame.place es) h=Deaf T₁ h:=by rw[Deaf_own];exact deafBehind_still (fun e he=>(fu e he).2) _
 have Kn:∀x,Deaf (T₁++MemOp.ofEvents h a.frame.fn a.frame.place es) x=Deaf T₁ x:=fun x=>by
  by_cases ex:x=h
  ·subst ex;exact Oi
  ·exact Deaf_other T₁ (fun z=>ex z.symm) _ gr
 have RQ:∀(x:Nat)(y:Goroutine),x≠j→(gs₁.setIfInBounds h ph)[x]? =some y→offersAt y c false=[]:=by
  intro x y It hy;rcases getElem?_stand gs₁ h x y hy with ⟨_,rfl⟩|⟨hx,Is⟩
  ·exact offersAt_ph _ _
  ·exact Cd.Nw hx Is fun s' fJ eP=>It (Cd.inj x j s' s c fJ hj eP ⟨kk,z,hk⟩)
 rcases hS with ⟨nn,w₀,hq,hG⟩|⟨Cm,g₀,g₂,N2,nD⟩
 ·have hjr:gs₁[j].status=.running:=(Go.Conc.Sits.status Cd.keep (.inl ⟨nn,w₀,hq,hG⟩)).elim (·.1) fun x=>by omega
  have hp:partners (gs₁.setIfInBounds h ph) c false=[]:=partners_nil fun x y hy=>by
   by_cases It:x=j
   ·subst It
    rw[stand_get uS Iy] at hy;obtain rfl:=Option.some.inj hy;exact offersAt_of_not_blocked (by rw[hjr];simp) _ _
   ·exact RQ x y It hy
  have hw:∀cc∈#[scase c v z'],NoWays (Wv Gp (w.at d) (L+ds₁.length)) (gs₁.setIfInBounds h ph) cc:=by
   intro cc lR;simp only[List.mem_toArray,List.mem_cons,List.not_mem_nil,or_false] at lR;subst lR;exact ways_send_none p7 (Nat.le_refl _) hp
  have sv:=crowd_waits (sl:=fN) e4 (hsend d _ eU) hw
  have C':C3 P K Shun St B Inb Gp h ds₁ sg₁ (T₁++MemOp.ofEvents h a.frame.fn a.frame.place es) (gs₁.setIfInBounds h (parked a₂ #[scase c v z'] .send)) (Wv Gp (w.at d) (L+ds₁.length)) q₁:=by
   refine⟨fun y gy hy hyd ZU=>?_,fun y hy=>?_,Cd.nd,Cd.chans,Cd.wf,Cd.inj,fun x hx=>by rw[Kn];exact Cd.above x (by simpa using hx),Cd.low,Cd.Ao,Cd.ss,N1,Cd.keep⟩
   ·rw[Array.getElem?_setIfInBounds_ne (fun e=>hy e.symm)] at ZU
    have:=Cd.idle y gy hy hyd ZU;cases e:Inb y with
    |none=>rw[e] at this;exact⟨this.1,by rw[Kn];exact this.2⟩
    |some s'=>rw[e] at this;exact this
   ·obtain⟨h1,h2,h3,g,h4,h5,h6⟩:=Cd.dep y hy
    exact⟨h1,h2,h3,g,by rw[Array.getElem?_setIfInBounds_ne (fun e=>h1 e.symm)];exact h4,h5,by rw[Kn];exact h6⟩
  obtain⟨N',m',T',h1,h2⟩:=xy (v:=v) (z':=z') (a₂:=a₂) G hB gS uS hj hk hc _ _ _ q₁ fN d ds₁ sg₁ rfl (by simpa using G6) (Array.getElem?_setIfInBounds_self_of_lt J8) (by omega) e5 e6 (by rw[Kn];exact ZZ) C';exact⟨(N+1)+N',m',T',runNT_then (l6 e1 (e2.trans sv)) h1,by rw[←e3];simpa using h2⟩
 ·have Si:gs₁[j]? =some (parked g₂ s.cases s.shape):=by rw[Iy,N2]
  have hp:partners (gs₁.setIfInBounds h ph) c false=[(j,kk)]:=by
   rw[partners_one (stand_get uS Si) fun x y It hy=>RQ x y It hy,offersAt_parked_at hk (sW cD hk)]
   rfl
  have sv:=crowd_send_meets_sel (sl:=fN) e4 (hsend d _ eU) p7 uS Si hk hp;refine⟨N+1,_,_,l6 e1 (e2.trans sv),_,gs₁,g₂,d,fN,q₁,ds₁,sg₁,T₁,_,_,_,_,_,by rw[sH G eU Hi],rfl,by simp[e3],e3,?_,?_,nD.2.2.2.2.1,fun x hx It=>?_,e5,e6,Cd,N1,Kn,ZZ⟩
  ·exact Array.getElem?_setIfInBounds_self_of_lt (by simpa using J8)
  ·rw[Array.getElem?_setIfInBounds_ne (fun z=>uS z.symm),Array.getElem?_setIfInBounds_self_of_lt G6,finishComm_served]
  ·rw[Array.getElem?_setIfInBounds_ne (fun z=>hx z.symm),Array.getElem?_setIfInBounds_ne (fun z=>It z.symm)]
structure T7(P:Program)(K:World→Prop)(Shun:Loc→Prop)(St:Nat→Loc→Prop)(Inb:Nat→Option Seat)(Gp:rR)(h n j c kk:Nat)(s:Seat)(v:Value)(a a₂:Goroutine)(w:World):Prop where
 kc:∀w k,K w→K (w.setChan c 0 #[] false k k false)
 jh:j≠h
 jn:j<n
 hj:Inb j=some s
 hk:∃z,s.cases[kk]? =some (rcase c z)
 run:a.status=.running
 send:∃z' es,(∀d m,K (w.at d)→stepG P (h==0) a (Wv Gp (w.at d) m)=.comm a₂ #[scase c v z'] true .send (Wv Gp (w.at d) m) es)∧∀e∈es,xN Shun (oI St (fun g=>(Inb g).isSome)) w.heap.size h e∧e.loc≠.mark .disable∧e.loc≠.mark .enable
 ch:∃k,w.heap[c]? =some (.chan 0 #[] false k k false)
theorem gG.zd(G:GK K Shun Gp)(gS:nb≤9)(H:T7 P K Shun St Inb Gp h n j c kk s v a a₂ w){sh:Seat}{zO:Loc→Prop}{nh:Nat}(cD:sh.Wf)(Cy:∀l,zO l→l.isMemory=true∧¬Shun l)(NT:Sits P (h==0) K zO w.heap.size sh nh (Go.Conc.served a₂ undef))(eC:∀c',sh.has c'→∃k',w.heap[c']? =some (.chan 0 #[] false k' k' false))(tM:∀i s' c',i≠h→i≠j→Inb i=some s'→sh.has c'→¬s'.has c')(next:∀k g₂,w.heap[c]? =some (.chan 0 #[] false k k false)→s.home g₂→Q w→gG P Post K Q' Shun (upd St h zO) (upd (upd Inb h (some sh)) j none) Gp L nb j n 0 (Go.Conc.served g₂ (commResult s.cases s.shape kk v true)) (w.setChan c 0 #[] false (k+1) (k+1) false))(hQ:∀k,w.heap[c]? =some (.chan 0 #[] false k k false)→Q w→Q' (w.setChan c 0 #[] false (k+1) (k+1) false)):gG P Post K Q Shun St Inb Gp L nb h n 0 a w:=by
 intro d₀ gs T q sl ds sg cU ha hL oL hq hd C;obtain⟨k,hc⟩:=H.ch;obtain⟨z,hk⟩:=H.hk;obtain⟨z',es,hsend,fu⟩:=H.send;have uS:=H.jh;have hj:=H.hj;have hB:Gp.st.block<w.heap.size:=(G.row _ ((jG G).1 C.keep)).1.lt;obtain⟨N,m',t',e1,bQ,gs₀,g₂,d,fN,q',iU,pW,T₀,ops₀,fh,ph,fj,pj,rfl,rfl,m1,m2,m3,m4,m5,m6,m7,m8,C0,p0,Kq,UM⟩:=Mh (v:=v) (z':=z') G hB gS uS hj hk hc H.run hsend fu gs T q sl d₀ ds sg (by rw[cU];exact H.jn) ha hL oL hd C;refine Goal.back e1 ?_;have eU:K (w.at d):=(jG G).1 C0.keep;have Hi:(w.at d).heap[c]? =some (.chan 0 #[] false k k false):=hc;have Cg:s.has c:=⟨kk,z,hk⟩;have Ko:∀x,Deaf (T₀++(ops₀++met h j fh ph fj pj c k 0)) x=Deaf T₀ x:=fun x=>by rw[←Array.append_assoc,Deaf_quiet (met_quiet h j fh ph fj pj c k 0 x),Kq]
 have zM:∀x,x≠h→x≠j→upd (upd Inb h (some sh)) j none x=Inb x:=fun x h1 h2=>by rw[upd_ne _ _ h2,upd_ne _ _ h1]
 have Hy:upd (upd Inb h (some sh)) j none h=some sh:=by rw[upd_ne _ _ (fun e=>uS e.symm),upd_same]
 have E7:∀x,x≠h→upd St h zO x=St x:=fun x h1=>upd_ne _ _ h1
 have lR:∀c':Nat,(∃cap k':Nat,(w.at d).heap[c']? =some (Obj.chan cap #[] false k' k' false))→∃cap k':Nat,(Wv Gp ((w.at d).setChan c 0 #[] false (k+1) (k+1) false) (L+iU.length)).heap[c']? =some (Obj.chan cap #[] false k' k' false):=fun c' ⟨cap,k',gB⟩=>by
  have yZ:K ((w.at d).setChan c 0 #[] false (k+1) (k+1) false):=H.kc _ _ eU
  by_cases e:c=c'
  ·subst e
   have:=heap_setChan_self (w.at d) Hi 0 #[] false (k+1) (k+1) false;exact⟨0,k+1,(fE G yZ _ this).trans this⟩
  ·have:((w.at d).setChan c 0 #[] false (k+1) (k+1) false).heap[c']? =some (.chan cap #[] false k' k' false):=by rw[heap_setChan_ne _ _ _ _ _ _ _ e];exact gB
   exact⟨cap,k',(fE G yZ _ this).trans this⟩
 have pp:=Gi (uB:=upd St h zO) (qL:=fun g=>(upd (upd Inb h (some sh)) j none g).isSome) p0 (fun g l hg hl=>C0.ss g l hg hl) (fun g hg Iy=>by
  have G8:g≠h:=fun e=>by rw[e,C0.Ao] at hg;cases hg
  refine⟨by show(upd (upd Inb h (some sh)) j none g).isSome;rw[zM g G8 Iy];exact hg,fun l hl=>by rw[E7 g G8];exact hl⟩)
  (fun g hg=>by
    by_cases e:g=h
    ·subst e;exact .inr ⟨rfl,fun l hl=>Cy l (by rw[upd_same] at hl;exact hl)⟩
    ·have e2:g≠j:=fun z=>by subst z;rw[upd_same] at hg;cases hg
     refine .inl ⟨by rw[zM g e e2] at hg;exact hg,e2,fun l hl=>by rw[E7 g e] at hl;exact hl⟩) (by rw[Kq];exact UM) (by show(Inb j).isSome;rw[hj];rfl) fh ph fj pj k (C0.low j s c hj Cg)
 rw[Array.append_assoc] at pp
 have C':C3 P K Shun (upd St h zO) w.heap.size (upd (upd Inb h (some sh)) j none) Gp j iU pW (T₀++(ops₀++met h j fh ph fj pj c k 0)) bQ (Wv Gp ((w.at d).setChan c 0 #[] false (k+1) (k+1) false) (L+iU.length)) (upd q' h nh):=by
  refine C0.passed m6 zM (upd_same ..) (fun x h1 h2=>E7 x h1) (fun x _=>Iff.rfl) uS (fun e=>by rw[(C0.dep j e).2.2.1] at hj;cases hj) C0.nd (fun _ _=>rfl) (fun x hx=>upd_ne _ _ hx) Ko (fun x hx=>by omega) (.inl ⟨fun e=>(C0.dep h e).1 rfl,_,m3,?_⟩) (fun i s' c' e eP=>?_) (fun s' e=>?_) (fun i s1 s2 c' e h1 h2 e2 x1 x2=>?_) (fun s' c' e eP=>?_) (fun l _ hl=>?_) pp ((jG G).2 (H.kc _ _ eU))
  ·rw[Hy,upd_same,upd_same];exact NT
  ·by_cases e1:i=h
   ·subst e1
    rw[Hy] at e;obtain rfl:=Option.some.inj e;obtain⟨k',gB⟩:=eC c' eP;exact lR c' ⟨0,k',gB⟩
   ·have e2:i≠j:=fun z=>by rw[z,upd_same] at e;cases e
    rw[zM i e1 e2] at e;obtain⟨cap,k',gB⟩:=C0.chans i s' c' e eP;exact lR c' ⟨cap,k',oV G eU _ gB⟩
  ·rw[Hy] at e;obtain rfl:=Option.some.inj e;exact cD
  ·rw[Hy] at e;obtain rfl:=Option.some.inj e;exact tM i s2 c' h1 h2 e2 x1 x2
  ·rw[Hy] at e;obtain rfl:=Option.some.inj e
   obtain⟨k',gB⟩:=eC c' eP;exact(Array.getElem?_eq_some_iff.1 gB).1
  ·rw[upd_same] at hl;exact(Cy l hl).2
 have cL:=next k g₂ hc m5 hq d bQ _ (upd q' h nh) fN iU pW (m1.trans cU) m4 m7 m8 (hQ k hc hq) (by rw[Ko];exact C0.past.hears j (by show(Inb j).isSome;rw[hj];rfl)) (by rw[show(w.setChan c 0 #[] false (k+1) (k+1) false).heap.size=w.heap.size from by simp[World.setChan]];exact C');exact cL
theorem gG.HE(G:GK K Shun Gp)(gS:nb≤9)(H:T7 P K Shun St Inb Gp h n j c kk s v a a₂ w)(h0:0<h){nh:Nat}(cG:DP P K Gp nh 0 (Go.Conc.served a₂ undef))(next:∀k g₂,w.heap[c]? =some (.chan 0 #[] false k k false)→s.home g₂→Q w→gG P Post K Q' Shun St (upd Inb j none) Gp L nb j n 0 (Go.Conc.served g₂ (commResult s.cases s.shape kk v true)) (w.setChan c 0 #[] false (k+1) (k+1) false))(hQ:∀k,w.heap[c]? =some (.chan 0 #[] false k k false)→Q w→Q' (w.setChan c 0 #[] false (k+1) (k+1) false)):gG P Post K Q Shun St Inb Gp (L+1) nb h n 0 a w:=by
 intro d₀ gs T q sl ds sg cU ha hL oL hq hd C;obtain⟨k,hc⟩:=H.ch;obtain⟨z,hk⟩:=H.hk;obtain⟨z',es,hsend,fu⟩:=H.send;have uS:=H.jh;have hj:=H.hj;have hB:Gp.st.block<w.heap.size:=(G.row _ ((jG G).1 C.keep)).1.lt;obtain⟨N,m',t',e1,bQ,gs₀,g₂,d,fN,q',iU,pW,T₀,ops₀,fh,ph,fj,pj,rfl,rfl,m1,m2,m3,m4,m5,m6,m7,m8,C0,p0,Kq,UM⟩:=Mh (v:=v) (z':=z') G hB gS uS hj hk hc H.run hsend fu gs T q sl d₀ ds sg (by rw[cU];exact H.jn) ha hL oL hd C;refine Goal.back e1 ?_;have eU:K (w.at d):=(jG G).1 C0.keep;have Hi:(w.at d).heap[c]? =some (.chan 0 #[] false k k false):=hc;have Cg:s.has c:=⟨kk,z,hk⟩;have Ko:∀x,Deaf (T₀++(ops₀++met h j fh ph fj pj c k 0)) x=Deaf T₀ x:=fun x=>by rw[←Array.append_assoc,Deaf_quiet (met_quiet h j fh ph fj pj c k 0 x),Kq]
 have zM:∀x,x≠j→upd Inb j none x=Inb x:=fun x h2=>upd_ne _ _ h2
 have Hy:upd Inb j none h=none:=by rw[zM h (fun e=>uS e.symm)];exact C0.Ao
 have hlen:L+(h::iU).length=L+1+iU.length:=by simp;omega
 have pp:=Gi (uB:=St) (qL:=fun g=>(upd Inb j none g).isSome) p0 (fun g l hg hl=>C0.ss g l hg hl) (fun g hg Iy=>⟨by show(upd Inb j none g).isSome;rw[zM g Iy];exact hg,fun l hl=>hl⟩)
  (fun g hg=>by
    have e2:g≠j:=fun z=>by subst z;rw[upd_same] at hg;cases hg
    exact .inl ⟨by rw[zM g e2] at hg;exact hg,e2,fun l hl=>hl⟩) (by rw[Kq];exact UM) (by show(Inb j).isSome;rw[hj];rfl) fh ph fj pj k (C0.low j s c hj Cg)
 rw[Array.append_assoc] at pp
 have C':C3 P K Shun St w.heap.size (upd Inb j none) Gp j (h::iU) (upd pW h 0) (T₀++(ops₀++met h j fh ph fj pj c k 0)) bQ (Wv Gp ((w.at d).setChan c 0 #[] false (k+1) (k+1) false) (L+(h::iU).length)) (upd q' h nh):=by
  rw[hlen]
  refine C0.passed m6 (fun x _ h2=>zM x h2) (upd_same ..) (fun _ _ _=>rfl) (fun x hx=>by simp[hx]) uS (fun e=>by rw[(C0.dep j e).2.2.1] at hj;cases hj) (List.nodup_cons.2 ⟨fun e=>(C0.dep h e).1 rfl,C0.nd⟩) (fun x hx=>upd_ne _ _ hx) (fun x hx=>upd_ne _ _ hx) Ko (fun x hx=>by omega)
   (.inr ⟨by simp,h0,Hy,_,m3,by rw[upd_same,upd_same];exact cG,by rw[Ko,upd_same];exact UM⟩) (fun i s' c' e eP=>?_) (fun s' e=>by rw[Hy] at e;cases e) (fun i s1 s2 c' e=>by rw[Hy] at e;cases e) (fun s' c' e=>by rw[Hy] at e;cases e) (fun l hs=>by rw[Hy] at hs;cases hs) pp ((jG G).2 (H.kc _ _ eU))
  have e2:i≠j:=fun z=>by rw[z,upd_same] at e;cases e
  rw[zM i e2] at e;obtain⟨cap,k',gB⟩:=C0.chans i s' c' e eP;have bE:=oV G eU _ gB;have yZ:K ((w.at d).setChan c 0 #[] false (k+1) (k+1) false):=H.kc _ _ eU
  by_cases e:c=c'
  ·subst e
   have:=heap_setChan_self (w.at d) Hi 0 #[] false (k+1) (k+1) false;exact⟨0,k+1,(fE G yZ _ this).trans this⟩
  ·have:((w.at d).setChan c 0 #[] false (k+1) (k+1) false).heap[c']? =some (.chan cap #[] false k' k' false):=by rw[heap_setChan_ne _ _ _ _ _ _ _ e];exact bE
   exact⟨cap,k',(fE G yZ _ this).trans this⟩
 have cL:=next k g₂ hc m5 hq d bQ _ (upd q' h nh) fN (h::iU) (upd pW h 0) (m1.trans cU) m4 (by rw[hlen];exact m7) (fun i hi=>by
  by_cases e:i=h
  ·subst e;rw[upd_same];omega
  ·rw[upd_ne _ _ e];exact m8 i (by simpa [e] using hi)) (hQ k hc hq) (by rw[Ko];exact C0.past.hears j (by show(Inb j).isSome;rw[hj];rfl)) (by rw[show(w.setChan c 0 #[] false (k+1) (k+1) false).heap.size=w.heap.size from by simp[World.setChan]];exact C')
 rw[hlen] at cL;exact cL
end
end
section
open Go.Conc
open Go.ConcN (sumTo upd sumTo_upd upd_ne upd_same)
theorem FR{w:World}{z:Addr}{v:Value}(hs:z.spot=none)(h:w.cell? z=some v):w.setCell z v=w:=by
 refine gp (fun r=>?_) rfl rfl rfl rfl;rw[heap_set]
 by_cases e:z.block=r
 ·subst e
  rw[if_pos rfl];unfold World.cell? at h;cases hb:w.heap[z.block]? with
  |none=>rfl
  |some o=>
   rw[hb] at h;cases o with
   |cells c el f=>
    simp only[hs,Option.isSome_none,Bool.false_eq_true,if_false] at h;simp only[Option.map_some,nq,hs,Option.isSome_none,Bool.false_eq_true,if_false]
    congr 2
    refine Array.ext_getElem? fun i=>?_
    rw[Array.getElem?_setIfInBounds]
    split
    ·rename_i e;subst e;split
     ·exact h.symm
     ·rename_i aT;rw[Array.getElem?_eq_none_iff.2 (by omega)]
    ·rfl
   |_=>rfl
 ·rw[if_neg e]
section
variable{P:Program}{Post:Value→World→Prop}{K K' Q Q':World→Prop}{Shun:Loc→Prop}{St uB:Nat→Loc→Prop}{B:Nat}{Inb qO:Nat→Option Seat}{Gp:rR}{h j c k kk L nb n dl:Nat}{ds iU:List Nat}{sg pW:Nat→Nat}{T T':Trace}{gs bQ:Array Goroutine}{w w':World}{q q':Nat→Nat}{a a₂ g:Goroutine}{s:Seat}{v z z':Value}{es:Array Event}
theorem gG.hire(G:GK K Shun Gp)(gS:nb≤9)(hs:a.status=.running){a' child:Goroutine}(hgo:∀d m,K (w.at d)→stepG P (h==0) a (Wv Gp (w.at d) m)=.spawn a' child (Wv Gp (w.at d) m) es)(fu:∀e∈es,xN Shun (oI St (fun g=>(Inb g).isSome)) w.heap.size h e∧e.loc≠.mark .disable∧e.loc≠.mark .enable){sh:Seat}{zO:Loc→Prop}{nh:Nat}(cD:sh.Wf)(Cy:∀l,zO l→l.isMemory=true∧¬Shun l)(NT:Sits P (h==0) K zO w.heap.size sh nh a')(eC:∀c',sh.has c'→∃k',w.heap[c']? =some (.chan 0 #[] false k' k' false))(tM:∀i s' c',i≠h→Inb i=some s'→sh.has c'→¬s'.has c')(hIn:Inb n=none)(next:gG P Post K Q Shun (upd St h zO) (upd Inb h (some sh)) Gp L nb n (n+1) 0 child w):gG P Post K Q Shun St Inb Gp L nb h n 0 a w:=by
 intro d₀ gs T q sl ds sg cU ha hL oL hq hd C;have hB:Gp.st.block<w.heap.size:=(G.row _ ((jG G).1 C.keep)).1.lt;obtain⟨N,gs₁,d₁,d,sl₁,fN,T₁,q₁,ds₁,sg₁,e1,e2,e3,e4,e5,e6,C1,e8⟩:=mT G hB gS hs _ gs T q sl d₀ ds sg rfl ha hL oL C;have eU:K (w.at d):=(jG G).1 C1.keep;have cP:gs₁.size=n:=e3.trans cU;have aT:h<gs₁.size:=(Array.getElem?_eq_some_iff.1 e4).1;have UG:n≠h:=by omega
 have sv:=runT_crowd_spawn (P:=P) (sl:=fN) (w:=Wv Gp (w.at d) (L+ds₁.length)) (w':=Wv Gp (w.at d) (L+ds₁.length)) e4 (hgo d _ eU)
 have RL:((MemOp.ofEvents h a.frame.fn a.frame.place es).push {g:=h,fn:=a.frame.fn,pos:=a.frame.place,act:=.go gs₁.size}|>.push {g:=gs₁.size,fn:=child.frame.fn,pos:=a.frame.place,act:=.start})=
  MemOp.ofEvents h a.frame.fn a.frame.place es++#[{g:=h,fn:=a.frame.fn,pos:=a.frame.place,act:=.go gs₁.size},{g:=gs₁.size,fn:=child.frame.fn,pos:=a.frame.place,act:=.start}]:=by
  apply Array.ext';simp
 rw[RL] at sv;have Oi:Deaf (T₁++MemOp.ofEvents h a.frame.fn a.frame.place es) h=Deaf T₁ h:=by rw[Deaf_own];exact deafBehind_still (fun e he=>(fu e he).2) _
 have Kn:∀x,Deaf (T₁++MemOp.ofEvents h a.frame.fn a.frame.place es) x=Deaf T₁ x:=fun x=>by
  by_cases ex:x=h
  ·subst ex;exact Oi
  ·exact Deaf_other T₁ (fun z=>ex z.symm) _ gr
 have N1:P3 Shun St (fun g=>(Inb g).isSome) w.heap.size h (T₁++MemOp.ofEvents h a.frame.fn a.frame.place es):=Ak C1.past (fun e he=>(fu e he).1) (by rw[C1.Ao];simp);have zM:∀x,x≠h→upd Inb h (some sh) x=Inb x:=fun x h1=>upd_ne _ _ h1
 have E7:∀x,x≠h→upd St h zO x=St x:=fun x h1=>upd_ne _ _ h1
 have pp:=QS (c:=gs₁.size) (uB:=upd St h zO) (qL:=fun g=>(upd Inb h (some sh) g).isSome) N1 (fun g l hg hl=>C1.ss g l hg hl) (fun g hg=>by
  have G8:g≠h:=fun e=>by rw[e,C1.Ao] at hg;cases hg
  refine⟨by show(upd Inb h (some sh) g).isSome;rw[zM g G8];exact hg,fun l hl=>by rw[E7 g G8];exact hl⟩)
  (fun g hg=>by
    by_cases e:g=h
    ·subst e;exact .inr ⟨rfl,fun l hl=>Cy l (by rw[upd_same] at hl;exact hl)⟩
    ·rw[zM g e] at hg
     exact .inl ⟨hg,fun z=>(by rw[z,cP,hIn] at hg;cases hg),fun l hl=>by rw[E7 g e] at hl;exact hl⟩) (by rw[Kn,e8];exact hd) (by rw[Kn];exact C1.above _ (Nat.le_refl _)) a.frame.fn a.frame.place child.frame.fn a.frame.place
 have Ck:=zb (h:=h) (c:=gs₁.size) a.frame.fn a.frame.place child.frame.fn a.frame.place;have Ko:∀x,Deaf (T₁++(MemOp.ofEvents h a.frame.fn a.frame.place es++#[{g:=h,fn:=a.frame.fn,pos:=a.frame.place,act:=.go gs₁.size},{g:=gs₁.size,fn:=child.frame.fn,pos:=a.frame.place,act:=.start}])) x=Deaf T₁ x:=fun x=>by rw[←Array.append_assoc,Deaf_quiet (Ck x),Kn]
 rw[Array.append_assoc] at pp;refine Goal.back (l6 e1 (e2.trans sv)) ?_;have lC:(((gs₁.setIfInBounds h a').push child))[h]? =some a':=by rw[Array.getElem?_push_lt (by simpa using aT)];simp
 have C':C3 P K Shun (upd St h zO) w.heap.size (upd Inb h (some sh)) Gp n ds₁ sg₁ (T₁++(MemOp.ofEvents h a.frame.fn a.frame.place es++#[{g:=h,fn:=a.frame.fn,pos:=a.frame.place,act:=.go gs₁.size},{g:=gs₁.size,fn:=child.frame.fn,pos:=a.frame.place,act:=.start}])) ((gs₁.setIfInBounds h a').push child) (Wv Gp (w.at d) (L+ds₁.length)) (upd q₁ h nh):=by
  refine C1.passed (fun x h1 h2=>?_) (fun x h1 _=>zM x h1) (by rw[zM n UG];exact hIn) (fun x h1 _=>E7 x h1) (fun x _=>Iff.rfl) UG (fun e=>?_) C1.nd (fun _ _=>rfl) (fun x hx=>upd_ne _ _ hx) Ko (fun x hx=>by simp at hx;omega) (.inl ⟨fun e=>(C1.dep h e).1 rfl,_,lC,?_⟩) (fun i s' c' e eP=>?_) (fun s' e=>?_) (fun i s1 s2 c' e h1 h2 e2 x1 x2=>?_) (fun s' c' e eP=>?_) (fun l _ hl=>?_) (by rw[←cP];exact pp) C1.keep
  ·rw[Array.getElem?_push]
   split
   ·rename_i hx;simp at hx;omega
   ·rw[Array.getElem?_setIfInBounds_ne (fun z=>h1 z.symm)]
  ·obtain⟨_,_,_,g,hg,_⟩:=C1.dep n e
   have:=(Array.getElem?_eq_some_iff.1 hg).1;omega
  ·rw[upd_same,upd_same,upd_same];exact NT
  ·by_cases e1:i=h
   ·subst e1
    rw[upd_same] at e;obtain rfl:=Option.some.inj e;obtain⟨k',gB⟩:=eC c' eP;have bE:(w.at d).heap[c']? =some (.chan 0 #[] false k' k' false):=gB;exact⟨0,k',(fE G eU _ bE).trans bE⟩
   ·rw[zM i e1] at e
    exact C1.chans i s' c' e eP
  ·rw[upd_same] at e;obtain rfl:=Option.some.inj e;exact cD
  ·rw[upd_same] at e;obtain rfl:=Option.some.inj e;exact tM i s2 c' h1 e2 x1 x2
  ·rw[upd_same] at e;obtain rfl:=Option.some.inj e
   obtain⟨k',gB⟩:=eC c' eP;exact(Array.getElem?_eq_some_iff.1 gB).1
  ·rw[upd_same] at hl;exact(Cy l hl).2
 exact next d _ _ (upd q₁ h nh) fN ds₁ sg₁ (by simp[cP]) (by rw[←cP,Array.getElem?_push];simp) e5 e6 hq (by rw[Ko];exact C1.above n (by omega)) C'
theorem gG.assume(G:GK K Shun Gp)(H:K w→Q w→gG P Post K Q Shun St Inb Gp L nb h n dl g w):gG P Post K Q Shun St Inb Gp L nb h n dl g w:=
 fun d gs T q sl ds sg h1 h2 h3 h4 h5 h6 C=>H (G.at' (w.at d) w.drawn ((jG G).1 C.keep)) h5 d gs T q sl ds sg h1 h2 h3 h4 h5 h6 C
theorem gG.less(G':GK K' Shun Gp)(hK:∀w,K' w→K w)(hw:K' w)(H:gG P Post K' Q Shun St Inb Gp L nb h n dl g w):gG P Post K Q Shun St Inb Gp L nb h n dl g w:=
 fun d gs T q sl ds sg h1 h2 h3 h4 h5 h6 C=>H d gs T q sl ds sg h1 h2 h3 h4 h5 h6 (C.less hK ((jG G').2 (G'.at' _ _ hw)))
theorem gG.add(G:GK K Shun Gp)(gS:nb≤9)(hs:a.status=.running){g':Nat→Goroutine}(bN:∀d m,m≤nb→K (w.at d)→stepG P (h==0) a (Wv Gp (w.at d) m)=.go (g' m) (Wv Gp (w.at d) (m+1)) es)(fu:∀e∈es,xN Shun (oI St (fun g=>(Inb g).isSome)) w.heap.size h e)(next:∀m,m≤nb→gG P Post K Q Shun St Inb Gp (L+1) (nb+1) h n (deafBehind dl es) (g' m) w):gG P Post K Q Shun St Inb Gp L nb h n dl a w:=by
 intro d₀ gs T q sl ds sg hn ha hL oL hq hd C;have hB:Gp.st.block<w.heap.size:=(G.row _ ((jG G).1 C.keep)).1.lt;obtain⟨N,bQ,d₁,d,sl₁,fN,T',q',iU,pW,e1,e2,e3,e4,e5,e6,e7,e8⟩:=mT G hB gS hs _ gs T q sl d₀ ds sg rfl ha hL oL C;have eU:K (w.at d):=(jG G).1 e7.keep;have hl:L+1+iU.length=L+iU.length+1:=by omega
 obtain⟨C',mA⟩:=e7.own (a':=g' (L+iU.length)) (w':=Wv Gp (w.at d) (L+1+iU.length)) e4 ((jG G).2 eU) (fun i s c hx hc=>by
  obtain⟨cap,k,hk⟩:=e7.chans i s c hx hc;have hb:=oV G eU _ hk;rw[fE G eU _ hb,fE G eU _ hb]) fu
 refine Goal.back (l6 e1 (e2.trans (runT_crowd_go (sl:=fN) e4 (bN d _ e5 eU)))) ?_;rw[←hl];exact next _ e5 d _ _ _ fN iU pW (by simp[e3,hn]) mA (by omega) e6 hq (by rw[Deaf_own,e8,hd]) C'
theorem gG.JI{K0:World→Prop}(G:GK K Shun Gp)(eE:Gp.st.spot=none)(hK:K w)(hQ:Q w)(hz:jv .u64 Gp.st w 0)(H:gG P Post K Q Shun St (fun _=>none) Gp 0 nb 0 n 0 g w):qa P Post K0 Shun n g w:=by
 intro d gs T q sl cU hg C;have hw:Wv Gp (w.at d) (0+([]:List Nat).length)=w.at d:=FR eE hz.1;have hh:Deaf T 0=0:=C.past.hears 0 rfl
 have C':C3 P K Shun St w.heap.size (fun _=>none) Gp 0 [] (fun _=>0) T gs (Wv Gp (w.at d) (0+([]:List Nat).length)) q:=by
  rw[hw];exact⟨fun i g hi _ hg=>C.idle i g hi hg,fun i hi=>(by cases hi),List.nodup_nil,fun i s c e=>(by cases e),fun i s e=>(by cases e),fun i i' s s' c e=>(by cases e),C.above,fun i s c e=>(by cases e),rfl,fun i l hs=>(by cases hs),⟨C.past.clean,fun i x hx hm=>(C.past.known i x hx hm).imp id fun z=>z.2.1.elim,fun _ _ _ _ _ hs=>(by cases hs),fun _ hs=>(by cases hs),C.past.seen⟩,G.at' _ _ hK⟩
 have:=H d gs T q sl [] (fun _=>0) cU hg (by simp) (fun i hi=>by cases hi) hQ hh C';rw[hw] at this;exact this
end
end
end Go.Proofs.YtobagnjnbmgidaaGreatDoor
