import Derived.Test.YtobagnjnbmgidaaGreatDoorR12
set_option linter.all false
set_option maxHeartbeats 8000000
set_option maxRecDepth 100000
namespace Go.Proofs.YtobagnjnbmgidaaGreatDoor
open Go.Conc Go.RowKit Tryz
structure RI(Ok:Addr→Bool→Prop)(B:Nat)(V:Ev0)(w:World)(s:RS)(C:List ah):Prop where
 v:s.V=V
 au:Sat Ok w (mR s++C)
 rv:RV Ok s
 bw:B≤w.heap.size
 la:0<V.nl→∃la,s.la=some la
 ca:0<V.nc→∃ca,s.ca=some ca
 oh:∀j,j<V.nc→pV B C (s.oh j) (s.l.ou j).b.ch
 wh:∀j,j<s.l.wl→pV B C (s.wh j) (s.l.wt j).b.ch
 Im:∀c,c<V.nc→0<V.nt c→∃ta,s.eH c=some ta∧Has C (fR ta 3 (fun j=>uq (V.tr c j)) (V.nt c) false)
structure Fx(s s':RS):Prop where
 gm:s'.gm=s.gm
 v:s'.V=s.V
 la:s'.la=s.la
 ca:s'.ca=s.ca
 th:s'.eH=s.eH
 oa:s'.oa=s.oa
 oc:s'.oc=s.oc
theorem Fx.dy{s:RS}:Fx s s:=⟨rfl,rfl,rfl,rfl,rfl,rfl,rfl⟩
theorem Fx.trans{s s1 s2:RS}(h:Fx s s1)(h':Fx s1 s2):Fx s s2:=⟨h'.gm.trans h.gm,h'.v.trans h.v,h'.la.trans h.la,h'.ca.trans h.ca,h'.th.trans h.th,h'.oa.trans h.oa,h'.oc.trans h.oc⟩
theorem fL.has{C C':List ah}{r:ah}(h:fL C C')(hr:Has C r):Has C' r:=by obtain⟨h1,i,h2⟩:=hr;obtain⟨j,hj⟩:=h i r h2;exact⟨h1,j,hj⟩
section
variable{main:Bool}{B:Nat}{Ok:Addr→Bool→Prop}{Ψ:Goroutine→World→Prop}{V:Ev0}{Lf:LS}
theorem RI.mv{w w':World}{s s':RS}{C C':List ah}(h:RI Ok B V w s C)(hS:Sat Ok w' (mR s'++C'))(hv:RV Ok s')(fx:Fx s s')(hi:fL C C')(hz:w.heap.size≤w'.heap.size)(ho:∀j,j<V.nc→pV B C' (s'.oh j) (s'.l.ou j).b.ch)(hw:∀j,j<s'.l.wl→pV B C' (s'.wh j) (s'.l.wt j).b.ch):RI Ok B V w' s' C':=
 ⟨fx.v.trans h.v,hS,hv,Nat.le_trans h.bw hz,fun z=>by rw[fx.la];exact h.la z,fun z=>by rw[fx.ca];exact h.ca z,ho,hw,fun c h1 h2=>by
  obtain⟨ta,h3,h4⟩:=h.Im c h1 h2;exact⟨ta,by rw[fx.th];exact h3,hi.has h4⟩⟩
theorem RI.BQ{w:World}{s:RS}{C C':List ah}(h:RI Ok B V w s C)(hi:fL C C')(j:Nat)(hj:j<V.nc):pV B C' (s.oh j) (s.l.ou j).b.ch:=(h.oh j hj).inc hi
theorem RI.DL{w:World}{s:RS}{C C':List ah}(h:RI Ok B V w s C)(hi:fL C C')(j:Nat)(hj:j<s.l.wl):pV B C' (s.wh j) (s.l.wt j).b.ch:=(h.wh j hj).inc hi
theorem RI.tg{w:World}{s:RS}{C:List ah}(h:RI Ok B V w s C){t:Nat}(ht:t<s.l.tl):∃g,s.ta=some g:=by
 rcases h.rv.t.row with ⟨_,z,_⟩|⟨g,z,_⟩
 ·omega
 ·exact⟨_,z⟩
def TV(Ok:Addr→Bool→Prop)(B:Nat)(V:Ev0)(Lf:LS)(Ψ:Goroutine→World→Prop)(cf:Frame)(cs:List Frame)(m:Nat)(w:World)(s:RS)(C:List ah):Prop:=
 ∀s' C' w' m',RI Ok B V w' s' C'→m'<m→Fx s s'→fL C C'→Fin V Lf m' none s'.l→w.heap.size≤w'.heap.size→Ψ (G (cf.finish (.tuple #[])) cs) w'
theorem TV.mv{cf eN:Frame}{cs dY:List Frame}{m m1:Nat}{w w1:World}{s s1:RS}{C C1:List ah}(h:TV Ok B V Lf Ψ cf cs m w s C)(hl:nG Ok B Ψ cf cs eN dY)(hm:m1≤m)(fx:Fx s s1)(hi:fL C C1)(hz:w.heap.size≤w1.heap.size):TV Ok B V Lf Ψ eN dY m1 w1 s1 C1:=
 fun s' C' w' m' h4 h1 h2 h3 h5 h6=>hl w' _ h4.au h4.bw fun w3 hS eu=>h s' C' w3 m' ⟨h4.v,hS,h4.rv,Nat.le_trans h4.bw eu,h4.la,h4.ca,h4.oh,h4.wh,h4.Im⟩ (by omega) (fx.trans h2) (hi.trans h3) h5 (by omega)
theorem nG.trans{cf kP zN:Frame}{cs U8 H6:List Frame}(h:nG Ok B Ψ cf cs kP U8)(h':nG Ok B Ψ kP U8 zN H6):nG Ok B Ψ cf cs zN H6:=
 fun w M hS hb K=>h' w M hS hb fun w3 US eu=>h w3 M US (Nat.le_trans hb eu) fun w4 Ou oJ=>K w4 Ou (by omega)
theorem As(F:aC prog main (DX Ok) Ψ)(hB:HB B Ok)(hV:vU V):∀(m:Nat)(cf:Frame)(cs:List Frame)(w:World)(s:RS)(C:List ah)(t k:Nat)(ob:Option Bk),RI Ok B V w s C→Fin V Lf m (some (t,k,ob)) s.l→TV Ok B V Lf Ψ cf cs m w s C→
 (ob=none→Ψ (G (Frame.enter prog 58 #[ptr s.gm,i6 t,i6 k] .normal) (cf::cs)) w)∧(∀b,ob=some b→∀ho hl hc,pV B C (.slice ho hl hc) b.ch→Ψ (G (Frame.enter prog 83 #[ptr s.gm,i6 t,i6 k,p9 b (.slice ho hl hc)] .normal) (cf::cs)) w):=by
 intro m
 induction m with
 |zero=>intro cf cs w s C t k ob I hf;exact hf.elim
 |succ m ih=>
  intro cf cs w s C t k ob I hf hK;obtain⟨hs,hk,hb,bN⟩:=hf;have e:=I.v;subst e;have su:t<s.l.tl:=by rw[hs.tl];exact hs.tn
  obtain⟨tg,jy⟩:=I.tg su;have Eb:=hV.nl;refine⟨fun e=>?_,fun b e ho hl hc eC=>?_⟩
  ·subst e
   refine OU F hB I.au I.bw jy su hk hV.nl I.la (fun z=>hV.kd k z) fun eN dY w' C' hl hi hz=>⟨fun nC xm=>?_,fun nC kE xm=>?_,fun nC bE xm=>?_⟩
   ·replace hi:fL C C':=hi
    subst nC;obtain⟨ca,uW⟩:=I.ca (by have:=hs.tn;omega);have hc:(s.l.tk t).c.toNat=t:=by rw[hs.tc];omega
    have zL:=hK.mv (m1:=m+1) hl (Nat.le_refl _) Fx.dy hi hz;refine Jq F hB xm I.rv (Nat.le_trans I.bw hz) jy uW su hs.tc hs.tn Eb (by have:=hs.el;omega) (by have:=hs.wl;omega) (by have:=hs.al;omega) ⟨hs.us.1,by have:=hs.us.2;omega⟩ hs.now (fun z=>?_) (Ld hV hs.tn _) (fun zN H6 w2 C2 EZ mu dV gT g' aj bA g1 c1 v1 ho dr eP h1 h2 h3=>?_) (fun gT C2 w2 g1 c1 v1 g2 c2 v2 g3 c3 v3 eF dr eP mu dV h1 h2 h3=>?_)
    ·obtain⟨ta,z1,z2⟩:=I.Im t hs.tn z
     exact⟨ta,z1,fL.has hi z2⟩
    ·simp only[LS.step,hc,if_true,gT] at bN
     exact(ih zN H6 w2 _ C2 t s.V.nl (some _) (I.mv h1 h2 ⟨rfl,rfl,rfl,rfl,rfl,rfl,rfl⟩ (hi.trans mu) (by omega) (I.BQ (hi.trans mu)) (I.DL (hi.trans mu))) bN (zL.mv EZ (by omega) ⟨rfl,rfl,rfl,rfl,rfl,rfl,rfl⟩ mu dV)).2 _ rfl ho dr eP h3
    ·simp only[LS.step,hc,if_true,if_neg gT] at bN
     refine zL _ C2 w2 m (I.mv h1 ⟨h2.a,h2.t,h2.w,h2.e⟩ ⟨rfl,rfl,rfl,rfl,rfl,rfl,rfl⟩ (hi.trans mu) (by omega) (I.BQ (hi.trans mu)) fun j hj=>?_) (by omega) ⟨rfl,rfl,rfl,rfl,rfl,rfl,rfl⟩ mu bN dV
     by_cases ej:j=s.l.wl
     ·subst ej
      simpa [LS.say,LS.wait,LS.c8,LS.put,upd] using h3
     ·have:=I.DL (hi.trans mu) j (by have:j<s.l.wl+1:=hj;omega)
      simpa [LS.say,LS.wait,LS.c8,LS.put,upd,ej] using this
   ·simp only[LS.step,if_neg (show¬k=s.V.nl by omega),if_pos kE] at bN
    exact(ih eN dY w' _ C' t (k+1) none (I.mv xm ⟨I.rv.a,I.rv.t,I.rv.w,I.rv.e⟩ ⟨rfl,rfl,rfl,rfl,rfl,rfl,rfl⟩ hi hz (I.BQ hi) (I.DL hi)) bN (hK.mv hl (by omega) ⟨rfl,rfl,rfl,rfl,rfl,rfl,rfl⟩ hi hz)).1 rfl
   ·simp only[LS.step,if_neg (show¬k=s.V.nl by omega),if_neg (show¬(s.V.ly k).k=1 by omega)] at bN
    exact(ih eN dY w' _ C' t (k+1) none (I.mv xm I.rv ⟨rfl,rfl,rfl,rfl,rfl,rfl,rfl⟩ hi hz (I.BQ hi) (I.DL hi)) bN (hK.mv hl (by omega) ⟨rfl,rfl,rfl,rfl,rfl,rfl,rfl⟩ hi hz)).1 rfl
  ·subst e
   obtain⟨L6,gi⟩:=hb b rfl;refine QT F hB I.au I.bw jy su hs.to (by omega) fun eN dY w' r Cr xm hz=>⟨fun sB=>?_,fun j hkj=>?_⟩
   ·subst sB
    simp only[LS.step,if_true] at bN;refine Tl F hB xm (Nat.le_trans I.bw hz) jy su (by rw[hs.tf];decide) hs.tc hs.tn fun w2 h2 dV=>?_
    refine(hK.mv Cr (Nat.le_refl _) Fx.dy (fL.dy.cons (r:=r)) hz) _ (r::C) w2 m (I.mv h2 ⟨I.rv.a,I.rv.t,I.rv.w,I.rv.e⟩ ⟨rfl,rfl,rfl,rfl,rfl,rfl,rfl⟩ (fL.dy.cons) (by omega) (fun j hj=>?_) (I.DL fL.dy.cons)) (by omega) ⟨rfl,rfl,rfl,rfl,rfl,rfl,rfl⟩ fL.dy bN dV;have hc:(s.l.tk t).c.toNat=t:=by rw[hs.tc];omega
    by_cases ej:j=t
    ·subst ej
     have:=eC.inc (C':=r::C) fL.dy.cons
     simpa [LS.end_,upd,hc] using this
    ·have:=I.BQ (C':=r::C) fL.dy.cons j hj
     simpa [LS.end_,upd,hc,ej] using this
   ·subst hkj
    have hj:j<s.V.nl:=by omega
    have zL:=hK.mv (m1:=m+1) Cr (Nat.le_refl _) Fx.dy (fL.dy.cons (r:=r)) hz;have yV:fL C (r::C):=fL.dy.cons;have AO:=I.la (by omega);refine O4 F hB xm I.rv (Nat.le_trans I.bw hz) jy su hj (by have:=hs.el;omega) AO (hV.kd j hj) fun zN H6 w2 C2 EZ mu dV=>⟨fun kE h1=>?_,fun bE uw h1=>?_,fun bE uw g' aj bA nb i h1 h2 gS h3=>?_⟩
    ·replace mu:fL (r::C) C2:=mu
     have E5:=eC.inc (yV.trans mu);have ha:=gi (by omega);rw[Nat.add_sub_cancel] at ha;have yZ:=zL.mv (m1:=m+1) EZ (Nat.le_refl _) Fx.dy mu dV;have jK:=yV.trans mu;refine KV F hB h1 I.rv (by have:=I.bw;omega) jy su (by omega) E5 L6.1 (fun z=>?_) (by have:=hs.el;omega) (by have:=hs.wl;omega) (by have:=hs.al;omega) hs.tx hs.now (hV.rt j hj kE) (ha kE) (fun vO XZ w3 C3 WR ya eu=>⟨fun hq h4=>?_,fun hq hn g' aj bA ca cap h4 h5 h6=>?_,fun hq hn hp g' aj bA h4 h5=>?_⟩) (fun hq hn hp C3 w3 g' aj bA g2 c2 v2 g3 c3 v3 ya eu h4 h5=>?_)
     ·rcases L6.2 with ⟨z1,_⟩|⟨_,_,z1⟩|⟨z1,_⟩
      ·omega
      ·exact z1
      ·omega
     ·simp only[LS.step,Nat.add_eq_zero_iff,Nat.succ_ne_zero,and_false,if_false,Nat.add_sub_cancel,if_pos kE,if_pos hq] at bN
      exact(ih vO XZ w3 s C3 t j (some b) (I.mv h4 I.rv Fx.dy (jK.trans ya) (by omega) (I.BQ (jK.trans ya)) (I.DL (jK.trans ya))) bN (yZ.mv WR (by omega) Fx.dy ya eu)).2 b rfl ho hl hc (E5.inc ya)
     ·simp only[LS.step,Nat.add_eq_zero_iff,Nat.succ_ne_zero,and_false,if_false,Nat.add_sub_cancel,if_pos kE,if_neg hq,if_pos hn] at bN
      exact(ih vO XZ w3 _ C3 t j (some _) (I.mv h4 h5 ⟨rfl,rfl,rfl,rfl,rfl,rfl,rfl⟩ (jK.trans ya) (by omega) (I.BQ (jK.trans ya)) (I.DL (jK.trans ya))) bN (yZ.mv WR (by omega) ⟨rfl,rfl,rfl,rfl,rfl,rfl,rfl⟩ ya eu)).2 _ rfl _ _ _ h6
     ·have AG:¬aH (s.V.ly j) ((s.l.tk t).a j)>0:=hp
      simp only[LS.step,Nat.add_eq_zero_iff,Nat.succ_ne_zero,and_false,if_false,Nat.add_sub_cancel,if_pos kE,if_neg hq,if_neg hn,if_neg AG] at bN;exact(ih vO XZ w3 _ C3 t (j+1) none (I.mv h4 h5 ⟨rfl,rfl,rfl,rfl,rfl,rfl,rfl⟩ (jK.trans ya) (by omega) (I.BQ (jK.trans ya)) (I.DL (jK.trans ya))) bN (yZ.mv WR (by omega) ⟨rfl,rfl,rfl,rfl,rfl,rfl,rfl⟩ ya eu)).1 rfl
     ·have AG:aH (s.V.ly j) ((s.l.tk t).a j)>0:=hp
      simp only[LS.step,Nat.add_eq_zero_iff,Nat.succ_ne_zero,and_false,if_false,Nat.add_sub_cancel,if_pos kE,if_neg hq,if_neg hn,if_pos AG] at bN;refine yZ _ C3 w3 m (I.mv h4 h5 ⟨rfl,rfl,rfl,rfl,rfl,rfl,rfl⟩ (jK.trans ya) (by omega) (I.BQ (jK.trans ya)) fun i hi=>?_) (by omega) ⟨rfl,rfl,rfl,rfl,rfl,rfl,rfl⟩ ya bN eu
      by_cases ej:i=s.l.wl
      ·subst ej
       left
       simp[LS.say,LS.wait,LS.c8,LS.put,LS.nF,upd]
      ·have:=I.DL (jK.trans ya) i (by have:i<s.l.wl+1:=hi;omega)
       simpa [LS.say,LS.wait,LS.c8,LS.put,LS.nF,upd,ej] using this
    ·replace mu:fL (r::C) C2:=mu
     have jK:=yV.trans mu;simp only[LS.step,Nat.add_eq_zero_iff,Nat.succ_ne_zero,and_false,if_false,Nat.add_sub_cancel,if_neg (show¬(s.V.ly j).k=1 by omega),if_neg uw] at bN;exact(ih zN H6 w2 s C2 t j (some b) (I.mv h1 I.rv Fx.dy jK (by omega) (I.BQ jK) (I.DL jK)) bN (zL.mv EZ (by omega) Fx.dy mu dV)).2 b rfl ho hl hc (eC.inc jK)
    ·replace mu:fL (r::C) C2:=mu
     have jK:=yV.trans mu;simp only[LS.step,Nat.add_eq_zero_iff,Nat.succ_ne_zero,and_false,if_false,Nat.add_sub_cancel,if_neg (show¬(s.V.ly j).k=1 by omega),if_pos uw] at bN;exact(ih zN H6 w2 _ C2 t j (some _) (I.mv h1 h2 ⟨rfl,rfl,rfl,rfl,rfl,rfl,rfl⟩ jK (by omega) (I.BQ jK) (I.DL jK)) bN (zL.mv EZ (by omega) ⟨rfl,rfl,rfl,rfl,rfl,rfl,rfl⟩ mu dV)).2 _ rfl _ _ _ (.inr ⟨_,_,i,rfl,h3,gS,Nat.le_refl _⟩)
end
section
variable{main:Bool}{B:Nat}{Ok:Addr→Bool→Prop}{Ψ:Goroutine→World→Prop}{V:Ev0}{Lf:LS}
theorem Nm(F:aC prog main (DX Ok) Ψ)(hB:HB B Ok){cf:Frame}{cs:List Frame}{w:World}{s:RS}{C:List ah}{tg:Addr}{t:Nat}{e:rB}(hS:Sat Ok w (mR s++C))(ey:B≤w.heap.size)(jy:s.ta=some tg)(ht:t<s.l.tl)(PG:(s.l.tk t).o=-1)(het:e.t=t)(Sl:e.c=0)(K:∀eN dY w' C',nG Ok B Ψ cf cs eN dY→fL C C'→w.heap.size≤w'.heap.size→Sat Ok w' (mR s++C')→Ψ (G (Frame.enter prog 58 #[ptr s.gm,i6 t,i6 (0:Nat)] .normal) (eN::dY)) w'):
 Ψ (G (Frame.enter prog 46 #[ptr s.gm,.agg (EA e).toArray] .normal) (cf::cs)) w:=by
 obtain⟨s,rfl⟩:=RS.lV jy;replace ht:t<s.l.tl:=ht;replace PG:(s.l.tk t).o=-1:=PG;obtain⟨ea,et,ew,ec,eo⟩:=e
 simp only at het Sl
 subst het;subst Sl;have hw:IntKind.wrap .i64 ((s.l.tk t).o+1)=((0:Nat):Int):=by rw[PG];decide
 refine iT f46 func46 _ rfl 84 (by kernel_rfl) hS fun bb a0 B1 hn af aJ aP S0 dH=>?_
 refine cJ F hB af aP S0 14 [0,0,3,1,0,0,1,1,1,0,4,1,0,0,1,1,4,t,3,101] [3,2] [13] [(20,i6 (IntKind.wrap .i64 ((s.l.tk t).o+1))),(10,i6 t),(8,ptr s.gm)] (fun M=>bR (B1) [i6 ea,i6 t,i6 ew,i6 0,.bool eo]::(M)) 1 14 [true] [13] [] [((↑t:Int),s.l.tl)] [(1,(t,s.l.tl))] fun a1 w1 S1 aG ck cV cW=>?_
 rw[hw] at S1;refine fT F af aG S1 21 58 #[ptr s.gm,i6 t,i6 0] fun kP bK=>?_
 refine K kP _ w1 _ (fun w2 M h2 fK hz=>bK _ _ _ h2 fun a2 B2 S2 aW dV=>?_) fL.dy.cons (by omega) (Sat.back (A:=mR {s with ta:=some tg}) S1.au);refine aD F hB af aW S2 1 [] [] [] [] (fun M=>M) 0 16 [true] [13] fun a3 w3 S3 bD eu fS gD=>?_
 refine dA F S3 af aJ bD [] (.tuple #[]) ?_;exact hz w3 S3.au fS
abbrev RS.MP(s:RS)(t i:Nat):RS:={s with l:=s.l.iZ t i}
theorem RS.Qn{s:RS}{g:Addr}(h:s.wa=some g):∃s0:RS,s={s0 with wa:=some g}:=⟨s,by cases s;simp at h;subst h;rfl⟩
theorem Nl(F:aC prog main (DX Ok) Ψ)(hB:HB B Ok){cf:Frame}{cs:List Frame}{w:World}{s:RS}{C:List ah}{tg wg:Addr}{t i:Nat}{e:rB}(hS:Sat Ok w (mR s++C))(ey:B≤w.heap.size)(jy:s.ta=some tg)(VY:s.wa=some wg)(ht:t<s.l.tl)(hi:i<s.l.wl)(ZQ:(s.l.wt i).e=false)(oN:(s.l.wt i).x=false)(het:e.t=t)(ZW:e.w=i)(Sl:e.c=1)(K:∀eN dY w' C',nG Ok B Ψ cf cs eN dY→fL C C'→w.heap.size≤w'.heap.size→Sat Ok w' (mR (s.MP t i)++C')→Ψ (G (Frame.enter prog 59 #[ptr s.gm,i6 t,i6 (s.l.wt i).l,i6 1,p9 (s.l.wt i).b (s.wh i)] .normal) (eN::dY)) w'):
 Ψ (G (Frame.enter prog 46 #[ptr s.gm,.agg (EA e).toArray] .normal) (cf::cs)) w:=by
 obtain⟨s,rfl⟩:=RS.lV jy;obtain⟨s,rfl⟩:=RS.Qn (s:=s) VY;replace ht:t<s.l.tl:=ht;replace hi:i<s.l.wl:=hi;replace ZQ:(s.l.wt i).e=false:=ZQ;replace oN:(s.l.wt i).x=false:=oN;obtain⟨ea,et,ew,ec,eo⟩:=e
 simp only at het ZW Sl
 subst het;subst ZW;subst Sl;refine iT f46 func46 _ rfl 84 (by kernel_rfl) hS fun bb a0 B1 hn af aJ aP S0 dH=>?_
 refine cJ F hB af aP S0 58 [0,0,3,1,0,0,2,1,1,0,5,1,6,i,3,101,0,0,3,1,1,0,5,1,6,i,2,101,1,0,5,1,6,i,3,101] [1,2,0,1,1,1,3,3,3,3,3,3,2,3,3,1,0,2] [] [(4,i6 i),(3,ptr B1),(0,ptr s.gm)] (fun M=>bR (B1) [i6 ea,i6 t,i6 i,i6 1,.bool eo]::(gH 5 (i,3) (.bool true) (M))) 1 58 [false,false] [] [((s.l.wt i).x,false),((s.l.wt i).e,false)] [((↑i:Int),s.l.wl),((↑i:Int),s.l.wl),((↑i:Int),s.l.wl)] [(3,(i,s.l.wl))] fun a1 w1 S1 aG ck cV cW=>?_
 replace S1:St Ok B1 84 _ (bR B1 (EA ⟨ea,t,i,1,eo⟩)::(mR {s with wa:=some wg,ta:=some tg,l:={s.l with wt:=upd s.l.wt i {s.l.wt i with e:=true}}}++C)) 1 a1 w1:=⟨S1.env,S1.au.re 6 rfl rfl (fun j=>sI (upd s.l.wt i {s.l.wt i with e:=true} j,s.wh j)) fun j _ f hf=>?_,S1.sz⟩
 ·refine cJ F hB af aG S1 6 [1,0,4,1,0,0,1,1,4,t,6,101] [2] [6] [(4,i6 i),(3,ptr B1),(0,ptr s.gm)] (fun M=>gH 4 (t,6) (i6 (-1)) (M)) 1 64 [false,false] [6] [] [((↑t:Int),s.l.tl)] [(1,(t,s.l.tl))] fun a2 w2 S2 aW dV kX A8=>?_
  replace S2:St Ok B1 84 _ (bR B1 (EA ⟨ea,t,i,1,eo⟩)::(mR (RS.MP {s with wa:=some wg,ta:=some tg} t i)++C)) 1 a2 w2:=⟨S2.env,S2.au.re 4 rfl rfl _ fun j _ f _=>iz rfl (show 6<19 by decide) j f,S2.sz⟩;have hu:upd s.l.wt i {s.l.wt i with e:=true} i={s.l.wt i with e:=true}:=by simp[upd]
  refine cJ F hB af aW S2 2 [0,0,1,1,1,0,5,1,6,i,1,101,0,0,3,1,1,0,5,1,6,i,4,103] [2,2] [21] [(82,.agg #[i6 (upd s.l.wt i (Ii.mk (s.l.wt i).t (s.l.wt i).l (s.l.wt i).x true (s.l.wt i).b) i).b.k,i6 (upd s.l.wt i (Ii.mk (s.l.wt i).t (s.l.wt i).l (s.l.wt i).x true (s.l.wt i).b) i).b.n,ah.get (ah.mk (fun j=>Addr.add (Addr.add (Option.getD (some wg) (Addr.mk 0 0 none)) (j.fst*7)) j.snd) [] (fun j f=>List.getD (sI (upd s.l.wt i (Ii.mk (s.l.wt i).t (s.l.wt i).l (s.l.wt i).x true (s.l.wt i).b) j,s.wh j)) f undef) s.l.wl 7 false (some (wg.block,136,s.wc*7))) (i,6)]),(74,i6 1),(72,i6 (upd s.l.wt i (Ii.mk (s.l.wt i).t (s.l.wt i).l (s.l.wt i).x true (s.l.wt i).b) i).l),(64,i6 t),(62,ptr s.gm)] (fun M=>M) 1 66 [false,false] [6,21] [] [((↑i:Int),s.l.wl),((↑i:Int),s.l.wl)] [(4,(i,s.l.wl))] fun a3 w3 S3 bD eu fS gD=>?_
  rw[hu] at S3;refine fT F af bD S3 83 59 #[ptr s.gm,i6 t,i6 (s.l.wt i).l,i6 1,.agg #[i6 (s.l.wt i).b.k,i6 (s.l.wt i).b.n,ah.get (ah.mk (fun j=>Addr.add (Addr.add (Option.getD (some wg) (Addr.mk 0 0 none)) (j.fst*7)) j.snd) [] (fun j f=>List.getD (sI (upd s.l.wt i (Ii.mk (s.l.wt i).t (s.l.wt i).l (s.l.wt i).x true (s.l.wt i).b) j,s.wh j)) f undef) s.l.wl 7 false (some (wg.block,136,s.wc*7))) (i,6)]] fun vO ij=>?_
  refine K vO _ w3 _ (fun w4 M h4 L8 hz=>ij _ _ _ h4 fun a4 B4 S4 fC oJ=>?_) fL.dy.cons (by omega) (Sat.back (A:=mR (RS.MP {s with wa:=some wg,ta:=some tg} t i)) S3.au);refine aD F hB af fC S4 1 [] [] [] [] (fun M=>M) 0 68 [false,false] [6,21] fun a5 w5 S5 dU jT kC rq=>?_
  refine dA F S5 af aJ dU [] (.tuple #[]) ?_;exact hz w5 S5.au kC
 ·exact(congrArg (fun z=>(sI z).getD f undef) (show(upd s.l.wt i {s.l.wt i with e:=true} j,s.wh j)=upd (fun j=>(s.l.wt j,s.wh j)) i ({s.l.wt i with e:=true},s.wh i) j by unfold upd;by_cases z:j=i<;>simp[z])).trans (iz (C:=sI) (g:=fun j=>(s.l.wt j,s.wh j)) (l:=3) (x:=.bool true) rfl (show 3<7 by decide) j f)
end
section
variable{main:Bool}{B:Nat}{Ok:Addr→Bool→Prop}{Ψ:Goroutine→World→Prop}{V:Ev0}{Lf:LS}
abbrev Uj(c:Int):Pe:=⟨c,-1,-1,-1,false,false,-1,fun _=>0,fun _=>0⟩
def LS.qb(L:LS)(c:Int):LS:={L with tl:=L.tl+1,tk:=upd L.tk L.tl (Uj c)}
abbrev RS.qb(s:RS)(g' aj:Nat)(bA:Nat→List Value)(c:Int):RS:={s with ta:=some ⟨g',0,none⟩,tc:=aj,tv:=bA,l:=s.l.qb c}
theorem JD(e:Pe):∀u∈FM e,u.oneCell'=true:=by
 intro u hu;simp only[FM,List.mem_cons,List.not_mem_nil,or_false] at hu;rcases hu with rfl|rfl|rfl|rfl|rfl|rfl|rfl|rfl|rfl|rfl|rfl|rfl|rfl|rfl|rfl|rfl|rfl|rfl|rfl<;>rfl
theorem Vq:vY prog 85 131 19 144=true:=by kernel_rfl
theorem MV(F:aC prog main (DX Ok) Ψ)(hB:HB B Ok){cf:Frame}{cs:List Frame}{w:World}{s:RS}{C:List ah}{c:Int}(hS:Sat Ok w (mR s++C))(hv:RV Ok s)(ey:B≤w.heap.size)(su:s.l.tl<1000000)(K:∀g' aj bA w',Sat Ok w' (mR (s.qb g' aj bA c)++C)→RV Ok (s.qb g' aj bA c)→w.heap.size≤w'.heap.size→Ψ (G (cf.finish (i6 s.l.tl)) cs) w'):
 Ψ (G (Frame.enter prog 43 #[ptr s.gm,i6 c,i6 (-1),i6 (-1),i6 (-1)] .normal) (cf::cs)) w:=by
 refine iT Tryz.f43 func43 _ rfl 33 (by kernel_rfl) hS fun bb a0 B1 hn af aJ aP S0 dH=>?_
 refine aD F hB af aP S0 15 [0,0,0,19] [] [] [(11,ptr B1),(0,ptr s.gm)] (fun M=>bR (B1) [i6 c,i6 (-1),i6 (-1),i6 (-1),.bool false,.bool false,i6 (-1),i6 0,i6 0,i6 0,i6 0,i6 0,i6 0,i6 0,i6 0,i6 0,i6 0,i6 0,i6 0]::(M)) 1 15 [] [] fun a1 w1 S1 aG ck cV cW=>?_
 refine Vb [] [] F aL (fun a wr z=>hB a wr (by omega)) af 7 [(1,(0,4),true),(0,(0,0),true),(0,(0,1),true),(0,(0,2),true),(0,(0,3),true),(0,(0,4),true),(0,(0,5),true),(0,(0,6),true),(0,(0,7),true),(0,(0,8),true),(0,(0,9),true),(0,(0,10),true),(0,(0,11),true),(0,(0,12),true),(0,(0,13),true),(0,(0,14),true),(0,(0,15),true),(0,(0,16),true),(0,(0,17),true),(0,(0,18),true)] [] [(17,ptr s.gm),(0,ptr s.gm)] (bR (B1+1) (FM (Uj c))::·) 2 [] [] [] 21 23 24 85 131 19 144 5 6 0 Vq (by kernel_rfl) (by kernel_rfl) (by kernel_rfl) (by kernel_rfl) (by kernel_rfl) (fun _ _ h=>by cases h) rfl rfl (by decide) (by kernel_rfl) gl gl gl S1 rfl rfl (by decide) rfl hv.t (fun _ _=>rfl) rfl (JD _) (by omega) (by simp only[maxLen];omega) (by omega) fun g' aj iW bA a2 w2 Vo A hz eG aW=>?_
 have S2:St Ok w2.heap.size 33 _ _ 0 a2 w2:=⟨eG,A.au,rfl⟩;have dV:w2.heap.size=w2.heap.size:=rfl;have cU:=A.size;replace aW:=aW.trans aG;generalize Hz:w2.heap.size=B2 at S2 dV cU;refine aD F hB af aW S2 5 [2,0,4,1] [] [] [(0,ptr s.gm)] (fun M=>gH 2 (0,4) (.slice (some ⟨g',0,none⟩) (s.l.tl+1) aj) (M)) 0 21 [] [8] fun a3 w3 S3 bD eu fS gD=>?_
 have h3:Sat Ok w3 (mR (s.qb g' aj bA c)++C):=S3.au.tail.tail.re 3 rfl rfl _ A.upd;replace S3:St Ok B2 33 _ (mR (s.qb g' aj bA c)++C) 0 a3 w3:=⟨S3.env,h3,S3.sz⟩;have hw:IntKind.wrap .i64 (((s.l.tl+1:Nat):Int)-1)=s.l.tl:=by rw[bI (by omega) (by omega)];omega
 refine aD F hB af bD S3 9 [0,0,4,1] [] [] [(10,i6 (IntKind.wrap .i64 ((↑(s.l.tl+1):Int)-1)))] (fun M=>M) 0 30 [] [8] fun a4 w4 S4 fC oJ Ay U4=>?_
 rw[hw] at S4;refine dA F S4 af aJ fC [] (i6 s.l.tl) ?_;exact K g' aj bA w4 S4.au ⟨hv.a,A.vc,hv.w,hv.e⟩ (by omega)
theorem Nk(F:aC prog main (DX Ok) Ψ)(hB:HB B Ok)(hV:vU V){m:Nat}{cf:Frame}{cs:List Frame}{w:World}{s:RS}{C:List ah}{L:LS}{i:Nat}{e:rB}(I:RI Ok B V w s C)(Wh:s.l=L.pop i)(hf:Fin V Lf (m+1) none L)(hn:cv L.ag L.al=i)(he:e={L.ag i with o:=true})(hK:TV Ok B V Lf Ψ cf cs (m+1) w s C):
 Ψ (G (Frame.enter prog 46 #[ptr s.gm,.agg (EA e).toArray] .normal) (cf::cs)) w:=by
 obtain⟨fy,hf⟩:=hf;rw[if_neg (by omega)] at hf;simp only[hn,Int.toNat_natCast] at hf;obtain⟨t,h1,h2,h3⟩:=hf;rw[←Wh] at h2 h3;have e0:=I.v;subst e0;have su:t<s.l.tl:=by rw[h2.tl];exact h2.tn
 obtain⟨tg,jy⟩:=I.tg su;have het:e.t=t:=by rw[he];exact h1
 rcases h3 with ⟨h4,h5⟩|⟨h4,x,h5,h6,h7,h8,h9,xu⟩
 ·refine Nm F hB I.au I.bw jy su h2.to het (by rw[he];exact h4) fun eN dY w' C' hl hi hz hS=>?_
  exact(As F hB hV m eN dY w' s C' t 0 none (I.mv hS I.rv Fx.dy hi hz (I.BQ hi) (I.DL hi)) h5 (hK.mv hl (by omega) Fx.dy hi hz)).1 rfl
 ·have rJ:s.l.wl=L.wl:=by rw[Wh];rfl
  have eY:s.l.wt=L.wt:=by rw[Wh];rfl
  obtain⟨wg,VY⟩:∃g,s.wa=some g:=by
   rcases I.rv.w.row with ⟨_,z,_⟩|⟨g,z,_⟩
   ·omega
   ·exact⟨_,z⟩
  rw[←eY] at h7 h8 h9 xu;have Hl:=I.wh x (by omega);refine Nl F hB I.au I.bw jy VY su (by omega) h9 h8 het (by rw[he];exact h5) (by rw[he];exact h4) fun eN dY w' C' hl hi hz hS=>?_
  have PF:RV Ok (s.MP t x):=⟨I.rv.a,I.rv.t,I.rv.w,I.rv.e⟩
  have Zz:∀j,j<s.l.wl→∀C2,fL C C2→pV B C2 (s.wh j) ((s.MP t x).l.wt j).b.ch:=fun j hj C2 mu=>by
   have:=I.DL mu j hj
   by_cases ej:j=x
   ·subst ej;simpa [LS.iZ,upd] using this
   ·simpa [LS.iZ,upd,ej] using this
  rcases xu with ⟨yg,y,ch,sD,za⟩|⟨k,yg,sD,za,SX⟩
  ·rw[sD] at Hl
   rw[yg]
   have hlen:ch.length<1000000:=by
    cases m with
    |zero=>exact za.elim
    |succ m=>exact(za.2.2.1 _ rfl).1.1
   refine VF F hB (s:=s.MP t x) (k:=s.V.nl) (kk:=(s.l.wt x).b.k) (nn:=(s.l.wt x).b.n) hS PF (by have:=I.bw;omega) jy su rfl (Hl.inc hi) hlen (by have:=h2.el;show s.l.el<_;omega) fun zN H6 w2 C2 EZ mu dV g' aj bA ho dr hc g1 g2 g3=>?_
   exact(As F hB hV m zN H6 w2 _ C2 t s.V.nl (some _) (I.mv g1 g2 ⟨rfl,rfl,rfl,rfl,rfl,rfl,rfl⟩ (hi.trans mu) (by omega) (I.BQ (hi.trans mu)) (fun j hj=>Zz j hj C2 (hi.trans mu))) za (hK.mv (hl.trans EZ) (by omega) ⟨rfl,rfl,rfl,rfl,rfl,rfl,rfl⟩ (hi.trans mu) (by omega))).2 _ rfl ho dr hc g3
  ·rw[za]
   obtain⟨la,AO⟩:=I.la (by omega)
   obtain⟨ho,dr,hc,ehd⟩:∃ho hl hc,s.wh x=.slice ho hl hc:=by
    rcases Hl with ⟨z,_⟩|⟨ca,cap,i,z,_⟩
    ·exact⟨_,_,_,z⟩
    ·exact⟨_,_,_,z⟩
   rw[ehd];refine VE F hB (s:=s.MP t x) hS (by have:=I.bw;omega) AO yg hV.nl sD fun zN H6 w2 C2 EZ mu dV g1=>?_
   exact(As F hB hV m zN H6 w2 _ C2 t (k+1) none (I.mv g1 PF ⟨rfl,rfl,rfl,rfl,rfl,rfl,rfl⟩ (hi.trans mu) (by omega) (I.BQ (hi.trans mu)) (fun j hj=>Zz j hj C2 (hi.trans mu))) SX (hK.mv (hl.trans EZ) (by omega) ⟨rfl,rfl,rfl,rfl,rfl,rfl,rfl⟩ (hi.trans mu) (by omega))).1 rfl
end
end Go.Proofs.YtobagnjnbmgidaaGreatDoor
