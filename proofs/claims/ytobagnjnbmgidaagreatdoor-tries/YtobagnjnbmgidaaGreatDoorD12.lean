import Derived.Test.YtobagnjnbmgidaaGreatDoorD9
set_option linter.all false
set_option maxHeartbeats 8000000
set_option maxRecDepth 100000
namespace Go.Proofs.YtobagnjnbmgidaaGreatDoor
open Go.Conc Go.RowKit Tryz
section
open Go.ConcN (sumTo sumTo_upd)
section
variable{R:RN}{Post:Value→World→Prop}{σ σ':Gd}{s:PS}{B B' t κ bg Λ i m X:Nat}{q':List Nat}
def Gd.begun(σ:Gd)(R:RN)(t X bg:Nat):Gd:={st:=(⟨X,0,none⟩,ptr R.k.A)::(⟨bg,0,none⟩,Mg R.k.A)::σ.st,ng:=σ.ng+1,L:=σ.L+1,nb:=σ.nb+1,Inb:=cu σ.Inb 0 (some (lX R)),St:=cu σ.St 0 (xL ((⟨X,0,none⟩,ptr R.k.A)::rF R.k.A R.k.bU R.k.bS)),tk:=cu σ.tk t lM,dn:=σ.dn}
theorem Co.cW(c0:Co R σ s B)(tn:t<R.n)(hf:σ.tk t=none):σ.nb≤8:=by
 have h1:=Go.ConcN.le_sumTo (f:=fun j=>u5 (σ.tk j)) tn;simp only[hf,u5] at h1;have h2:=c0.nb;simp only[Gd.fr] at h2;have h3:u5 none=1:=rfl;simp only[u5] at h1 h2 ⊢;omega
theorem Co.Zt(c0:Co R σ s B):σ.Inb σ.ng=none:=by
 cases e:σ.Inb σ.ng with
 |none=>rfl
 |some x=>
  have n0:=c0.Lz;obtain⟨j,q,hj,hq,hk⟩:=c0.zH _ x e (by omega);have:=(c0.pk j q hj hq).κn;omega
theorem EI(H:xO R)(c0:Co R σ s B)(hq:s.q=i::q')(ht:(s.l.ag i).t=(t:Int))(tn:t<R.n)(hf:σ.tk t=none)(Ed:∀j,j<R.n→σ.tk j≠lM)(hL:σ.L=σ.pk R)(hB:B≤B')(hX:X<B')(hb:bg<B'){en:Value}{eb:qP}:zD R (σ.begun R t X bg) (s.dL i q' en eb) B' t σ.ng bg:=by
 have n0:=c0.Lz
 have f0:(σ.begun R t X bg).fr R+1=σ.fr R:=by
  have h1:=sumTo_upd σ.tk lM u5 tn;rw[hf] at h1;exact h1
 have f1:(σ.begun R t X bg).pk R=σ.pk R:=by
  have h1:=sumTo_upd σ.tk lM xS tn;rw[hf] at h1;exact h1
 have qt:∀p∈σ.st,p∈(σ.begun R t X bg).st:=fun p hp=>List.mem_cons_of_mem _ (List.mem_cons_of_mem _ hp)
 refine⟨CQ (L2:=s.l.pop i) c0 hq ht tn ⟨1,0,by rw[hf];rfl,by rw[hf];rfl,rfl⟩ rfl rfl rfl (fun k=>⟨rfl,rfl⟩) (fun j hj=>rfl) rfl rfl rfl rfl qt (fun p hp=>?_) (Nat.le_succ _) hB (fun j q1 hj aN h1=>?_) (fun g e h1 h2=>?_) (fun g y h1 h2=>?_) (by have:=c0.nb;show σ.nb+1+_≤9;omega),tn,bz ..,fun j hj aN=>?_,bz σ.Inb 0 _,n0,Nat.lt_succ_self _,?_,List.mem_cons_of_mem _ (List.mem_cons_self ..),?_⟩
 ·rcases List.mem_cons.1 hp with rfl|hp
  ·exact⟨(by decide:0≠5),(by decide:0≠6),hX⟩
  ·rcases List.mem_cons.1 hp with rfl|hp
   ·exact⟨(by decide:0≠5),(by decide:0≠6),hb⟩
   ·have:=c0.st p hp;exact⟨this.1,this.2.1,Nat.lt_of_lt_of_le this.2.2 hB⟩
 ·show cu σ.Inb 0 _ q1.κ=_
  rw[cq _ _ (by have:=(c0.pk j q1 hj h1).κ0;omega)]
 ·have iq:cu σ.Inb 0 (some (lX R)) g=some e:=h1
  rw[cq _ _ h2] at iq;exact⟨iq,fun q1 pZ z=>by rw[hf] at pZ;cases pZ⟩
 ·have iq:(cu σ.Inb 0 (some (lX R)) g).isSome:=h1
  have qA:cu σ.St 0 (xL ((⟨X,0,none⟩,ptr R.k.A)::rF R.k.A R.k.bU R.k.bS)) g y:=h2
  by_cases e0:g=0
  ·subst e0;rw[bz] at qA
   obtain⟨p,hp,rfl⟩:=qA;rcases List.mem_cons.1 hp with rfl|hp
   ·exact⟨_,List.mem_cons_self ..,rfl⟩
   ·exact⟨p,qt p (c0.sA p hp),rfl⟩
  ·rw[cq _ _ e0] at iq qA
   obtain⟨p,hp,rfl⟩:=c0.MZ g y iq qA;exact⟨p,qt p hp,rfl⟩
 ·show cu σ.tk t lM j≠lM
  rw[cq _ _ aN];exact Ed j hj
 ·show cu σ.Inb 0 _ σ.ng=none
  rw[cq _ _ (by omega)];exact c0.Zt
 ·show σ.L+1=_
  rw[hL,f1]
theorem Jh(H:xO R)(IH:∀m',m'<m+1→vW R Post m'){w:World}{g:Goroutine}(c0:Co R σ s w.heap.size)(Ed:∀j,j<R.n→σ.tk j≠lM)(Eo:σ.Inb 0=none)(hL:σ.L=σ.pk R)(hS:Sat (ku R σ) w (pM s++cO R σ))(hP:PV (ku R σ) s (cy s))(hQ:QI s)(Eg:xM R.k.A (R.cR::R.oF) g)(kY:∀j q,j<R.n→σ.tk j=iP q→oH R Post (m+1) j q)(hq:s.q=i::q')(ht:(s.l.ag i).t=(t:Int))(tn:t<R.n)(b8:σ.tk t=none)(hc:(s.l.ag i).c=0)(cL:Fin R.k.V R.Lf m (some (t,0,none)) (s.l.pop i)):xQ R Post σ 0 g w:=by
 have GG:=nM (cc:=R.cc) H.hA H.iA c0.n5;have WG:=c0.cW tn b8;have F0:∀dl L nb,nb≤9→aC prog true (DX (ku R σ)) (gG prog Post (KD R.wI R.k.A R.cc σ.st) (QD R.k.A) (jQ R.l) σ.St σ.Inb (iF R.k.A) L nb 0 σ.ng dl):=fun dl L nb h9=>SZ H.hA H.iA h9 c0.n5 c0.MZ 0
 have F:aC prog true (DX (ku R σ)) (xQ R Post σ 0):=F0 0 σ.L σ.nb (by omega);have LX:s.k.A=R.k.A:=by rw[c0.hk]
 have he:(jz s i).2=.func (.func 50) #[] #[ptr (R.ba t),ptr (R.bt t),ptr (R.bw t)]:=by
  unfold jz;simp only[hc,ht,Int.toNat_natCast,c0.hk,if_true];exact H.sc t tn
 refine Lt F (fun a wr h=>c0.hB H a wr h) hS hP (c0.flat H) hQ hq (by rw[LX];exact Eg) he func50 (by rfl) (by rfl) fun fr w1 kK lF Mf k1 sC P1 P0=>?_
 rw[LX] at Mf;have k1s:=k1.size;have ID:∀{r},Has R.S r→Has (pM (s.dL i q' kK lF)++cO R σ) r:=fun h=>((h.app σ.dn).app _).app _
 refine Jg F R.k.A (R.k.T t) R.k.bU R.k.bS (R.ba t) (R.bt t) (R.bw t) _ fr (R.cR::R.oF) w1 Mf (Has.au sC (ID (H.gi t tn))) (Has.au sC (ID (H.yc t tn))) (Has.au sC (ID (H.eZ t tn))) (Has.rd sC (ID (H.gi t tn))) (Has.rd sC (ID (H.yc t tn))) (Has.rd sC (ID (H.eZ t tn))) (fun a wr h=>c0.hB H a wr (by omega))
  (fun c dY w2 X bt bw bg bf eE k2 SA cX cbt cbw cbg cbf=>?_)
 have Py:=k2.size;have bX:=SA X (by simp);have bT:=SA bt (by simp);have bG:=SA bg (by simp);have bW:=SA bw (by simp);have bF:=SA bf (by simp)
 have LK:∀l,oI σ.St (fun g=>(σ.Inb g).isSome) l→¬jQ R.l l:=fun y ⟨gg,h1,h2⟩ ⟨A',_,z⟩=>by
  obtain⟨p,hp,rfl⟩:=c0.MZ gg y h1 h2;have:=c0.st p hp;rcases z with z|z<;>(simp at z;rw[z] at this;simp at this)
 refine Pc R.k.A GG WG Lr F0 LK (fun w h=>h.2.2.1) (fun w h=>h.2.2.2.2) c dY w2 ?_;refine eE (fun g=>gG prog Post (KD R.wI R.k.A R.cc σ.st) (QD R.k.A) (jQ R.l) σ.St σ.Inb (iF R.k.A) (σ.L+1) (σ.nb+1) 0 σ.ng 0 g w2) (uf (F0 0 (σ.L+1) (σ.nb+1) (by omega)) w2) (fun a ⟨fM,a',eK,GQ⟩=>?_);refine gG.assume GG (fun yZ Xu=>?_);have C1:=EI (B':=w2.heap.size) (X:=X) (bg:=bg) (en:=kK) (eb:=lF) H c0 hq ht tn b8 Ed hL (by omega) bX.2 bG.2;have GG1:=nM (cc:=R.cc) H.hA H.iA C1.co.n5;have hK1:KD R.wI R.k.A R.cc (σ.begun R t X bg).st w2:=⟨yZ.1,wN cX (wN cbg yZ.2.1),yZ.2.2⟩;refine gG.less GG1 (fun w h=>⟨h.1,GJ (fun y hy=>List.mem_cons_of_mem _ (List.mem_cons_of_mem _ hy)) (fun _ h=>h) h.2.1,h.2.2⟩) hK1 ?_;have lR:∀c'∈R.cc,∃k',w2.heap[c']? =some (.chan 0 #[] false k' k' false):=yZ.2.1.2
 have VB:∀y∈((⟨X,0,none⟩,ptr R.k.A)::rF R.k.A R.k.bU R.k.bS:List (Addr×Value)),y∈(σ.begun R t X bg).st:=fun y hy=>by
  rcases List.mem_cons.1 hy with rfl|hy
  ·exact List.mem_cons_self ..
  ·exact List.mem_cons_of_mem _ (List.mem_cons_of_mem _ (c0.sA y hy))
 obtain⟨nh,hgo⟩:=GQ (KD R.wI R.k.A R.cc (σ.begun R t X bg).st) (xL ((⟨X,0,none⟩,ptr R.k.A)::rF R.k.A R.k.bU R.k.bS)) w2.heap.size w2 (fun w h y hy=>h.2.1.1 y (VB y hy)) (fun y hy=>⟨⟨y,hy,rfl⟩,(C1.co.st y (VB y hy)).2.2⟩);refine gG.hire (es:=#[]) GG1 (by omega) fM (fun d m _=>eK _) (by simp) (sh:=lX R) (zO:=xL ((⟨X,0,none⟩,ptr R.k.A)::rF R.k.A R.k.bU R.k.bS)) (nh:=nh+1) (yy H.we _) (fun l dr=>⟨wj dr,fun z=>?_⟩) (.inl ⟨nh,w2,rfl,hgo⟩) (fun c' eP=>?_) (fun g' s' c' h1 h2 h3 h4=>?_) c0.Zt ?_
 ·obtain⟨y,hy,rfl⟩:=dr
  have:=C1.co.st y (VB y hy);obtain⟨A',_,z⟩:=z;rcases z with z|z<;>(simp at z;rw[z] at this;simp at this)
 ·rcases mQ eP with rfl|rfl
  ·exact lR _ (by simp[RN.cc])
  ·exact lR _ (by simp[RN.cc])
 ·obtain⟨j,q1,hj,pZ,kE,Cw⟩:=c0.inj h1 h2 h4
  have:=H.tw j hj;rcases mQ h3 with e|e
  ·exact this.1 (by rw[←Cw,e])
  ·exact this.2 (by rw[←Cw,e])
 let N:List ah:=[oR X 0 [ptr R.k.A] false,oR bg 0 [Mg R.k.A] false,oR bt 0 [ptr (R.k.T t)] false,oR bw 0 [.func (.func 37) #[] #[ptr R.bl,ptr R.bo,ptr (R.bi t)]] false,oR bf 0 [.func (.func 62) #[] #[ptr bw,ptr bt,ptr X]] false]
 have W4:Flat N:=by
  rw[cN];intro r hr;simp only[N,List.mem_cons,List.not_mem_nil,or_false] at hr;rcases hr with rfl|rfl|rfl|rfl|rfl<;>rfl
 have Hw:Sat (ku R σ) w2 (pM (s.dL i q' kK lF)++(jw (R.k.T t) (.pointer none) false::((N++R.S)++cO R (σ.begun R t X bg)))):=by
  have h1:Sat (ku R σ) w1 (pM (s.dL i q' kK lF)++(jw (R.k.T t) (.pointer none) false::cO R (σ.begun R t X bg))):=by
   have:=sC.perm ((qK (σ':=σ.begun R t X bg) tn rfl rfl).append_left _);rw[b8] at this;exact this
  have af:∀r∈pM (s.dL i q' kK lF)++(jw (R.k.T t) (.pointer none) false::cO R (σ.begun R t X bg)),∀j,r.has j→(r.ad j).block<w1.heap.size:=fun r hr j hj=>h1.blk hr hj
  have Hz:∀b,w1.heap.size≤b→ku R σ ⟨b,0,none⟩ false:=fun b hb=>c0.hB H _ _ (by show w.heap.size≤b;omega)
  have h2:=h1.JR k2
  have h3:Sat (ku R σ) w2 (N++(pM (s.dL i q' kK lF)++(jw (R.k.T t) (.pointer none) false::cO R (σ.begun R t X bg)))):=by
   have ne:∀(Z:List ah),(∀r∈Z,r.wr=false)→∀b,w1.heap.size≤b→∀r∈Z++(pM (s.dL i q' kK lF)++(jw (R.k.T t) (.pointer none) false::cO R (σ.begun R t X bg))),r.wr=true→∀j,r.has j→(r.ad j).block≠b:=fun Z hz b hb r hr hw j hj e=>by
    rcases List.mem_append.1 hr with z|z
    ·rw[hz r z] at hw;cases hw
    ·have:=af r z j hj;omega
   have a1:=h2.lK cbf (Hz _ bF.1) (ne [] (by simp) _ bF.1);have a2:=a1.lK cbw (Hz _ bW.1) (ne [oR bf 0 [.func (.func 62) #[] #[ptr bw,ptr bt,ptr X]] false] (by simp) _ bW.1);have a3:=a2.lK cbt (Hz _ bT.1) (ne [oR bw 0 [.func (.func 37) #[] #[ptr R.bl,ptr R.bo,ptr (R.bi t)]] false,oR bf 0 [.func (.func 62) #[] #[ptr bw,ptr bt,ptr X]] false] (by simp) _ bT.1);have a4:=a3.lK cbg (Hz _ bG.1) (ne [oR bt 0 [ptr (R.k.T t)] false,oR bw 0 [.func (.func 37) #[] #[ptr R.bl,ptr R.bo,ptr (R.bi t)]] false,oR bf 0 [.func (.func 62) #[] #[ptr bw,ptr bt,ptr X]] false] (by simp) _ bG.1);exact a4.lK cX (Hz _ bX.1) (ne [oR bg 0 [Mg R.k.A] false,oR bt 0 [ptr (R.k.T t)] false,oR bw 0 [.func (.func 37) #[] #[ptr R.bl,ptr R.bo,ptr (R.bi t)]] false,oR bf 0 [.func (.func 62) #[] #[ptr bw,ptr bt,ptr X]] false] (by simp) _ bX.1)
  have h4:=h3.Tr (Z:=R.S) fun r hr=>⟨List.mem_append_right _ (List.mem_append_right _ (List.mem_cons_of_mem _ (List.mem_append_right _ (List.mem_append_right _ hr)))),H.ro r hr⟩
  refine h4.perm ?_;have e1:=(List.perm_append_comm (l₁:=R.S) (l₂:=N)).append_right (pM (s.dL i q' kK lF)++(jw (R.k.T t) (.pointer none) false::cO R (σ.begun R t X bg)));rw[List.append_assoc] at e1;refine e1.trans ?_;have:=List.perm_append_comm_assoc (N++R.S) (pM (s.dL i q' kK lF)++[jw (R.k.T t) (.pointer none) false]) (cO R (σ.begun R t X bg))
  simpa using this
 have mX:oR X 0 [ptr R.k.A] false∈pM (s.dL i q' kK lF)++(jw (R.k.T t) (.pointer none) false::((N++R.S)++cO R (σ.begun R t X bg))):=List.mem_append_right _ (List.mem_cons_of_mem _ (List.mem_append_left _ (List.mem_append_left _ (List.mem_cons_self ..))));have mG:oR bg 0 [Mg R.k.A] false∈pM (s.dL i q' kK lF)++(jw (R.k.T t) (.pointer none) false::((N++R.S)++cO R (σ.begun R t X bg))):=List.mem_append_right _ (List.mem_cons_of_mem _ (List.mem_append_left _ (List.mem_append_left _ (List.mem_cons_of_mem _ (List.mem_cons_self ..)))));have US:=Hw.still (u:=Mg R.k.A) mG;have hP3:=P1.still (u:=Mg R.k.A) Hw mG;have Ou:=US.still (u:=ptr R.k.A) mX;have hP4:=hP3.still (u:=ptr R.k.A) US mX
 have hN:∀{r},r∈N→r.wr=false→Has (N++R.S) r:=fun hr hw=>by
  obtain⟨i,hi⟩:=kV hr;exact Has.pre (C:=N) ⟨hw,i,hi⟩ _
 refine MX (Λ:=m+1) (κ:=σ.ng) (bg:=bg) (R':=N++R.S) (bf:=bf) (bw:=bw) (bt:=bt) (X:=X) (v:=.pointer none) (s:=s.dL i q' kK lF) (m:=m) H IH ⟨σ.begun R t X bg,s.dL i q' kK lF,w2.heap.size,m,C1,fun j q1 hj pZ=>?_,Nat.lt_succ_self m⟩ ⟨Ou,hP4,P0,(W4.app H.fl).app (C1.co.flat H),(H.jH (Nat.zero_lt_of_lt tn)).app N,Nat.le_refl _,Gu.refl _ _,C1.co.hk,C1.co.q9 H⟩ cL (Nat.le_refl _) (fun r hr=>hr.app N) (hN (by simp[N]) rfl) (hN (by simp[N]) rfl) (hN (by simp[N]) rfl) (hN (by simp[N]) rfl);have h9:cu σ.tk t lM j=iP q1:=pZ
 by_cases e:j=t
 ·rw[e,bz] at h9;cases h9
 ·rw[cq _ _ e] at h9
  exact(kY j q1 hj h9).1
end
end
section
open Go.ConcN (sumTo sumTo_upd)
section
variable{R:RN}{Post:Value→World→Prop}{σ σ':Gd}{s:PS}{B B' t κ bg Λ i m X:Nat}{q':List Nat}{st:List (Addr×Value)}{w wS:World}
def KJ(R:RN)(st:List (Addr×Value))(wS w:World):Prop:=KD R.wI R.k.A R.cc st w∧Kp [] wS w [⟨R.k.A,5,none⟩,⟨R.k.A,6,none⟩]∧w.heap.size=wS.heap.size
theorem Ra(H:xO R)(h5:∀p∈st,p.1≠⟨R.k.A,5,none⟩)(h6:∀p∈st,p.1≠⟨R.k.A,6,none⟩)(hl:R.k.A<wS.heap.size):JK (KJ R st wS) (jQ R.l) wS.heap.size (iF R.k.A):=by
 have hI:=H.iA;refine⟨fun w d h=>⟨h.1,⟨h.2.1.size,h.2.1.cellC,h.2.1.jq,h.2.1.blk⟩,h.2.2⟩,fun w v h=>?_,fun w v h=>?_,⟨_,H.hA,.inl rfl⟩,⟨_,H.hA,.inr rfl⟩,hl,hl⟩
 ·exact⟨((nM H.hA H.iA h5).st w v).2 h.1,h.2.1.rD rfl (.inr (.inl (by simp[iF]))),by simp[World.setCell,h.2.2]⟩
 ·obtain⟨⟨k1,k2,⟨v5,k3⟩,k4,v6,k5⟩,h2,h3⟩:=h
  refine⟨⟨BP hI k1,(tI h6).2 k2,⟨v5,(World.cell?_setCell_other _ _ _ _ (by simp[iF])).trans k3⟩,by rw[World.frozen?_setCell];exact k4,v,World.cell?_setCell_same _ _ _ k5⟩,h2.rD rfl (.inr (.inl (by simp[iF]))),by simp[World.setCell,h3]⟩
structure Mx(R:RN)(s:PS)(dn:List ah)(w:World):Prop where
 old:Old R.wI w
 hk:s.k=R.k
 l:s.l=R.Lf
 AB:R.k.A<w.heap.size
 au:Sat (cQ R.wI.heap.size R.l []) w (pM s++(dn++R.S))
 pv:PV (cQ R.wI.heap.size R.l []) s (cy s)
 fl:Flat (dn++R.S)
 dW:∃Y,dn=Y++R.W
 ch:∀j,j<R.n→gQ (dn++R.S) (s.oh j) (s.l.ou j).b.ch
def K1(R:RN)(Post:Value→World→Prop):Prop:=∀ng s dn w',0<ng→Mx R s dn w'→qa prog Post (Old R.wI) (jQ R.l) ng (G (R.cR.finish (.tuple #[])) R.oF) w'
theorem NG(H:xO R)(cL:K1 R Post){w:World}{g:Goroutine}(c0:Co R σ s w.heap.size)(Ed:∀j,j<R.n→σ.tk j≠lM)(Eo:σ.Inb 0=none)(hL:σ.L=σ.pk R)(hS:Sat (ku R σ) w (pM s++cO R σ))(hP:PV (ku R σ) s (cy s))(hQ:QI s)(Eg:xM R.k.A (R.cR::R.oF) g)(hq:s.q=[])(hl:s.l=R.Lf):xQ R Post σ 0 g w:=by
 have gJ:∀j,j<R.n→σ.tk j=CK:=fun j hj=>by
  rcases vZ (σ.tk j) with e|⟨q,e⟩|e|e
  ·obtain⟨i,hi,_⟩:=c0.all j hj (.inl e);rw[hq] at hi;cases hi
  ·obtain⟨i,hi,_⟩:=c0.all j hj (.inr ⟨q,e⟩);rw[hq] at hi;cases hi
  ·exact absurd e (Ed j hj)
  ·exact e
 have Xy:σ.Inb=fun _=>none:=by
  funext x
  by_cases hx:x=0
  ·rw[hx];exact Eo
  ·cases e:σ.Inb x with
   |none=>rfl
   |some y=>
    obtain⟨j,q,hj,dQ,_⟩:=c0.zH x y e hx;rw[gJ j hj] at dQ;cases dQ
 have rj:σ.L=0:=by
  have h1:=c0.cnt;rw[hq,List.length_nil] at h1;rw[hL];omega
 have rL:om R σ.tk=[]:=by
  unfold om;rw[List.flatMap_eq_nil_iff];intro j hj;rw[gJ j (List.mem_range.1 hj)];rfl
 have LX:s.k.A=R.k.A:=by rw[c0.hk]
 have fu:cy s=[]:=by unfold cy;rw[hq];rfl
 obtain⟨b,cap,uU⟩:∃b cap,s.en=.slice b 0 cap:=by
  have:=hP.en.2;rw[fu] at this;rcases this with ⟨z,_⟩|⟨o,c,z,_⟩
  ·exact⟨_,_,z⟩
  ·exact⟨_,_,z⟩
 have h1:=hS.val 0 _ rfl (0,1) ⟨Nat.zero_lt_one,(by decide:1<2)⟩;have o1:=hS.ok 0 _ rfl (0,1) ⟨Nat.zero_lt_one,(by decide:1<2)⟩;have F:aC prog true (DX (ku R σ)) (xQ R Post σ 0):=c0.Mi (Post:=Post) H 0;have dw:w.cell? ⟨R.k.A,1,none⟩=some (.slice b 0 cap):=by rw[←uU,←LX];exact h1
 refine OV F R.k.A R.cR R.oF b cap g w Eg dw ⟨qe (by decide) (by decide),fun h=>by cases h⟩ (fun fr J4=>?_);clear F;intro d gs T q sl ds sg cU Eh hLd oL hq6 hd C;rw[rj,Nat.zero_add] at hLd C ⊢;rw[Xy] at C;have gS:=c0.D6;have GG:=nM (cc:=R.cc) H.hA H.iA c0.n5;have eU:KD R.wI R.k.A R.cc σ.st (w.at d):=(jG GG).1 C.keep;have h6w:jv .u32 ⟨R.k.A,6,none⟩ w 0:=hq6;have UI:R.k.A<w.heap.size:=c0.AB
 have kW:Kp [] w (Wv (iF R.k.A) (w.at d) ds.length) [⟨R.k.A,5,none⟩,⟨R.k.A,6,none⟩]:=
  Kp.rD (w':=w.at d) (by exact⟨Nat.le_refl _,fun _ _ _ _ h=>h,fun _ _ _ _ _=>rfl,fun _ _ _ _ _ _ h=>h⟩) rfl (.inr (.inl (by simp[iF])))
 have hKJ:KJ R σ.st w (Wv (iF R.k.A) (w.at d) ds.length):=⟨C.keep,kW,IY _⟩;have C':=C.less (K':=KJ R σ.st w) (fun w h=>h.1) hKJ;have J:=Ra (wS:=w) H c0.n5 c0.n6 UI;obtain⟨nm,hWS⟩:=DM (K:=KJ R σ.st w) (Shun:=jQ R.l) (B:=w.heap.size) (Anchor:=fun g=>g=G (R.cR.finish (.tuple #[])) R.oF) R.k.A (fun w h=>h.1.2.2.1) (fun w h=>h.1.2.2.2.2) fr (R.cR::R.oF) (fun k=>J4 (fun g=>∃n,WS prog (KJ R σ.st w) (jQ R.l) w.heap.size (iF R.k.A) (fun g=>g=G (R.cR.finish (.tuple #[])) R.oF) k n 8 g) (TD (jc k 8)) ⟨0,WS.Pa rfl rfl⟩) 9 (Nat.le_refl _);have oM:jv .u32 (iF R.k.A).se (Wv (iF R.k.A) (w.at d) ds.length) 0:=gw (show jv .u32 (iF R.k.A).se (w.at d) 0 from h6w) (iF R.k.A).ne _;obtain⟨N,m',t',e1,A0,w',zZ,Ni,a',rfl,e3,e4,e5,e6,e7,e8,e9⟩:=Rf J _ 9 _ gs _ sl T q _ false 0 nm ds sg (gv ds.length 0) 0 rfl rfl (by simpa using Eh) C' hWS (fun z=>by cases z) (by omega) (.inl ⟨.inl ⟨by omega,by omega⟩,oL,rfl,rfl⟩) (zR GG eU _) oM hd;obtain⟨k1,k2,k3⟩:=e6.keep;subst e5;have S':=vN (e6.hears e7) k1.1
 have xm:Sat (cQ R.wI.heap.size R.l []) w (pM s++(σ.dn++R.S)):=by
  have e:cO R σ=σ.dn++R.S:=by unfold cO;rw[rL];rfl
  rw[e] at hS;exact hS.Px (fun r _ j _ o=>⟨o.1,fun z=>by cases z⟩) (fun r _ _ j _ o=>⟨o.1,fun _=>⟨(o.2 rfl).1,fun⟨p,hp,_⟩=>by cases hp⟩⟩)
 have up:∀(a:Addr)(wr:Bool),ku R σ a wr→cQ R.wI.heap.size R.l [] a wr:=fun a wr o=>⟨o.1,fun z=>⟨(o.2 z).1,fun⟨p,hp,_⟩=>by cases hp⟩⟩
 have Z8:PV (cQ R.wI.heap.size R.l []) s (cy s):=⟨⟨hP.jr.row,hP.jr.le,hP.jr.mx,fun a ha ad wr hb=>up ad wr (hP.jr.Gq a ha ad wr hb)⟩,hP.en,fun hc=>⟨(hP.eo hc).1,fun a wr hb=>up a wr ((hP.eo hc).2 a wr hb)⟩⟩;have zI:Flat (σ.dn++R.S):=c0.Tz.app H.fl;have GY:=mS (b:=s.k.A) xm Z8 zI (i0:=0) (j0:=(0,0)) rfl (by decide) (by decide) ⟨Nat.zero_lt_one,(by decide:0<2)⟩ rfl
 have hD:Mx R s σ.dn w':=
  {old:=k1.1
   hk:=c0.hk
   l:=hl
   AB:=Nat.lt_of_lt_of_le UI k2.size
   au:=xm.kp k2 (fun r hr j hj z=>by
    have o:=((xm.mem hr).ok j hj).1.1;simp only[List.mem_cons,List.not_mem_nil,or_false] at z;rcases z with z|z
    ·exact o ⟨_,H.hA,.inl (by rw[z])⟩
    ·exact o ⟨_,H.hA,.inr (by rw[z])⟩) (fun r hr g e n hg x hx=>by
    have:=GY r hr g e n hg;rw[LX] at this;simp only[List.mem_cons,List.not_mem_nil,or_false] at hx;rcases hx with rfl|rfl<;>exact this)
   pv:=Z8
   fl:=zI
   dW:=c0.dW
   ch:=fun j hj=>c0.ed j hj (gJ j hj)}
 have hA:=cL σ.ng s σ.dn w' c0.Lz hD w'.drawn A0 t' Ni zZ (e3.trans cU) e4 (by rw[k3];exact S');exact Goal.back e1 hA
theorem Hh(H:xO R)(cL:K1 R Post):∀m,vW R Post m:=by
 intro m
 induction m using Nat.strongRecOn with
 |_ m IH=>
  intro σ s w g c0 Ed Eo hL hS hP hQ hf kY Eg;cases m with
  |zero=>exact hf.elim
  |succ m=>
   obtain⟨_,hf⟩:=hf;cases hq:s.q with
   |nil=>
    rw[Gv hQ hq,if_pos (by decide)] at hf;exact NG H cL c0 Ed Eo hL hS hP hQ Eg hq hf
   |cons i q'=>
    rw[Nz hQ hq,if_neg (by omega)] at hf;simp only[Int.toNat_natCast] at hf;obtain⟨t,ht,tK,nQ⟩:=hf;obtain⟨t',tn,JZ,bN⟩:=c0.lP i (by rw[hq];simp);have:t'=t:=by rw[ht] at JZ;omega
    subst this;rcases bN with ⟨hc,b8⟩|⟨hc,q,N2,hw⟩
    ·rcases nQ with ⟨_,hf⟩|⟨z,_⟩
     ·exact Jh H (fun m' uR=>IH m' uR) c0 Ed Eo hL hS hP hQ Eg kY hq ht tn b8 hc hf
     ·rw[hc] at z;cases z
    ·rcases nQ with ⟨z,_⟩|⟨_,wn,h1,h2,h3,h4,h5,h6⟩
     ·rw[hc] at z;cases z
     ·have UA:wn=q.wn:=by rw[hw] at h1;omega
      subst UA;refine MR H c0 Ed Eo hL hS hP hQ Eg kY hq ht tn N2 hc hw ⟨?_,?_⟩
      ·have e:((s.l.pop i).iZ t' q.wn).tk t'={(s.l.pop i).tk t' with w:=-1}:=by
        show upd _ _ _ _=_;unfold upd;rw[if_pos rfl]
       exact⟨tK.tl,tK.tn,tK.el,tK.wl,tK.al,tK.now,by rw[e];exact tK.tc,by rw[e];exact tK.tf,by rw[e];exact tK.to,by rw[e];exact tK.tx,tK.us⟩
      ·have e:((s.l.pop i).iZ t' q.wn).wt q.wn={s.l.wt q.wn with e:=true}:=by
        show upd _ _ _ _=_;unfold upd;rw[if_pos rfl];rfl
       rw[e];exact h6
end
end
section
open Go.ConcN (sumTo sumTo_upd)
def Pr(R:RN):List (Addr×Value):=rF R.k.A R.k.bU R.k.bS++(List.range R.n).map fun j=>(⟨R.k.T j,3,none⟩,.chan (some (R.k.aX j)))
def ze(R:RN)(ng:Nat):Gd:={st:=Pr R,ng:=ng,L:=0,nb:=0,Inb:=fun _=>none,St:=fun _ _=>False,tk:=fun _=>none,dn:=R.W}
theorem Bw(c:Nat):∀n,sumTo n (fun _=>c)=n*c
 |0=>by simp[sumTo]
 |n+1=>by simp only[sumTo,Bw c n];rw[Nat.add_mul,Nat.one_mul]
section
variable{R:RN}{Post:Value→World→Prop}{s:PS}{B ng m:Nat}
theorem X2(H:xO R)(hk:s.k=R.k)(xZ:0<ng)(hI:R.wI.heap.size≤B)(hA:R.k.A<B)(hT:∀j,j<R.n→R.k.T j<B)(Kd:∀i∈s.q,∃t:Nat,t<R.n∧(s.l.ag i).t=t∧(s.l.ag i).c=0)(Wq:∀i∈s.q,i<s.l.al)(aB:∀t:Nat,t<R.n→∃i∈s.q,(s.l.ag i).t=t)(Xe:s.q.Pairwise fun i j=>(s.l.ag i).t≠(s.l.ag j).t)(hlen:s.q.length=R.n):Co R (ze R ng) s B:=by
 have f0:(ze R ng).fr R=R.n:=by show sumTo R.n (fun _=>1)=_;rw[Bw,Nat.mul_one]
 have f1:(ze R ng).pk R=0:=by show sumTo R.n (fun _=>0)=_;rw[Bw,Nat.mul_zero]
 have h9:R.n≤9:=H.V.nc;refine⟨hk,xZ,hI,hA,fun p hp=>?_,fun y hy=>List.mem_append_left _ hy,fun j hj=>List.mem_append_right _ (List.mem_map.2 ⟨j,List.mem_range.2 hj,rfl⟩),fun g x h1 _=>(by cases h1),fun g e h1=>(by cases h1),fun j q _ h1=>(by cases h1),fun i hi=>?_,Wq,fun t ht _=>aB t ht,Xe,by rw[f0,f1,hlen,Nat.add_zero],by rw[f0];show 0+R.n≤9;omega,fun j _ h1=>(by cases h1),H.flW,⟨[],rfl⟩⟩
 ·rcases List.mem_append.1 hp with hp|hp
  ·simp only[rF,List.mem_cons,List.not_mem_nil,or_false] at hp
   rcases hp with rfl|rfl
   ·exact⟨(by decide:3≠5),(by decide:3≠6),hA⟩
   ·exact⟨(by decide:4≠5),(by decide:4≠6),hA⟩
  ·obtain⟨j,hj,rfl⟩:=List.mem_map.1 hp
   exact⟨(by decide:3≠5),(by decide:3≠6),hT j (List.mem_range.1 hj)⟩
 ·obtain⟨t,h1,h2,h3⟩:=Kd i hi
  exact⟨t,h1,h2,.inl ⟨h3,rfl⟩⟩
theorem Ih(H:xO R)(cL:K1 R Post){w:World}(hK:KD R.wI R.k.A R.cc (Pr R) w)(Xt:QD R.k.A w)(h5:jv .u64 ⟨R.k.A,5,none⟩ w 0)(c0:Co R (ze R ng) s w.heap.size)(hS:Sat (ku R (ze R ng)) w (pM s++cO R (ze R ng)))(hP:PV (ku R (ze R ng)) s (cy s))(hQ:QI s)(hf:Fin R.k.V R.Lf m none s.l):
 qa prog Post (Old R.wI) (jQ R.l) ng (G (Frame.enter prog 39 #[ptr R.k.A] .normal) (R.cR::R.oF)) w:=by
 have f1:(ze R ng).pk R=0:=by show sumTo R.n (fun _=>0)=_;rw[Bw,Nat.mul_zero]
 have base:xQ R Post (ze R ng) 0 (G (Frame.enter prog 39 #[ptr R.k.A] .normal) (R.cR::R.oF)) w:=by
  have F:aC prog true (DX (ku R (ze R ng))) (xQ R Post (ze R ng) 0):=c0.Mi (Post:=Post) H 0;rw[enter_at _ func39 rfl];simp only[ntmps39,mV,Nat.reduceAdd,Nat.reduceSub];refine F.sq ?_;refine F.bl ?_;refine F.ctl (fun _=>stepG_loop) ?_;refine Hh H cL m (ze R ng) s w _ c0 (fun j _ z=>by cases z) rfl f1.symm hS hP hQ hf (fun j q _ z=>by cases z) ?_;exact⟨_,_,_,_,_,_,_,_,_,_,_,_,_,_,_,_,_,_,_,_,_,_,_,_,_,_,_,_,_,_,_,_,_,_,rfl⟩
 exact gG.JI (nM H.hA H.iA c0.n5) rfl hK Xt h5 base
end
end
end Go.Proofs.YtobagnjnbmgidaaGreatDoor
