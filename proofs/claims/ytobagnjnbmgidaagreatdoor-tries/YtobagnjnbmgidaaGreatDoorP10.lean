import Derived.Test.YtobagnjnbmgidaaGreatDoorP6
set_option linter.all false
set_option maxHeartbeats 8000000
set_option maxRecDepth 100000
namespace Go.Proofs.YtobagnjnbmgidaaGreatDoor
open Go.Conc Go.RowKit Tryz
section
variable{main:Bool}{B:Nat}{Ok:Addr→Bool→Prop}{Ψ:Goroutine→World→Prop}
theorem Rj(F:aC prog main (DX Ok) Ψ)(hB:HB B Ok){bb:Frame}(af:bb.kind=.normal)(aJ:bb.fn=164){cf:Frame}{cs:List Frame}{C:List ah}{kT:Int}:∀(ch:List iO)(x:iO)(q:Nat)(e':Value),Has C (oR q 0 [i6 x.k,i6 x.l,i6 x.n,e'] false)→rS C e' ch→
 ∀a0 w B1,a0.defers=[]→B≤B1→w.heap.size=B1→St Ok B1 54 [(0,.iface 168 (ptr q)),(1,.iface 171 (i6 kT)),(2,.bool true)] C 0 a0 w→(∀w',Sat Ok w' C→w.heap.size≤w'.heap.size→Ψ (G (cf.finish (.bool ((x::ch).any fun y=>y.k==kT))) cs) w')→Ψ (G (bb.at a0 (pc prog 164 6 [] [])) (cf::cs)) w
 |ch,x,q,e',h1,he,a0,w,B1,aP,hle,dH,S0,K=>by
  replace S0:=S0.get h1
  by_cases hk:x.k=kT
  ·have gB:(x.k==kT)=true:=by simpa using hk
   rw[List.any_cons,gB,Bool.true_or] at K;refine cJ F hB af aP S0 54 [0,0,0,1] [3,3,3,1,3,3,3,2] [] [(6,.bool true)] (fun M=>M) 0 44 [false,true] [] [(kT==x.k,true)] [] [] fun a1 w1 S1 aG ck cV cW=>?_
   refine dA F S1 af aJ aG [] (.bool true) ?_;exact K w1 S1.au.tail (by omega)
  ·have gB:(x.k==kT)=false:=by simpa using hk
   rw[List.any_cons,gB,Bool.false_or] at K
   match ch,he with
   |[],he=>
    have yW:e'=.nilIface:=he;subst yW;refine cJ F hB af aP S0 96 [0,0,0,1,0,0,3,1] [3,3,3,1,3,3,3,0,3,3] [] [(6,.bool false)] (fun M=>M) 0 73 [false,false,true,true] [] [(kT==x.k,false)] [] [] fun a1 w1 S1 aG ck cV cW=>?_
    refine dA F S1 af aJ aG [] (.bool false) ?_;exact K w1 S1.au.tail (by omega)
   |y::ch,he=>
    obtain⟨q',e2,rfl,h3,h4⟩:=he;refine cJ F hB af aP S0 96 [0,0,0,1,0,0,3,1] [3,3,3,1,3,3,3,0,3,1] [] [(0,.iface 168 (ptr q')),(29,.bool (kT==x.k)),(28,.iface 171 (i6 kT)),(27,.iface 168 (ptr q)),(18,.bool false),(17,.iface 171 (i6 kT)),(16,.iface 168 (ptr q)),(1,.iface 171 (i6 kT)),(2,.bool true)] (fun M=>M) 0 73 [false,false,true,false] [] [(kT==x.k,false)] [] [] fun a1 w1 S1 aG ck cV cW=>?_
    have S2:=S1.fZ [(0,.iface 168 (ptr q')),(1,.iface 171 (i6 kT)),(2,.bool true)] (by kernel_rfl);rw[show pc prog 164 73 [false,false,true,false] []=pc prog 164 6 [] [] by kernel_rfl];exact Rj F hB af aJ ch y q' e2 h3 h4 a1 w1 B1 aG hle (by omega) ⟨S2.env,S2.au.tail,S2.sz⟩ fun w' h5 h6=>K w' h5 (by omega)
theorem Ri(F:aC prog main (DX Ok) Ψ)(hB:HB B Ok){cf:Frame}{cs:List Frame}{w:World}{C:List ah}{ch:List iO}{e:Value}{kT:Int}(he:rS C e ch)(aN:ch≠[])(hS:Sat Ok w C)(ey:B≤w.heap.size)(K:∀w',Sat Ok w' C→w.heap.size≤w'.heap.size→Ψ (G (cf.finish (.bool (ch.any fun y=>y.k==kT))) cs) w'):
 Ψ (G (Frame.enter prog 163 #[e,.iface 171 (i6 kT)] .normal) (cf::cs)) w:=by
 match ch,he with
 |[],_=>exact absurd rfl aN
 |x::ch,he=>
  obtain⟨q,e',rfl,h1,h2⟩:=he;refine iT f163 func163 _ rfl 22 (by kernel_rfl) hS fun bb a0 B1 hn af aJ aP S0 dH=>?_
  refine aD F hB af aP S0 28 [] [1,1,1] [] [(20,.bool true),(19,.iface 171 (i6 kT)),(18,.iface 168 (ptr q))] (fun M=>M) 0 28 [false] [] fun a1 w1 S1 aG ck cV cW=>?_
  refine fT F af aG S1 21 164 #[.iface 168 (ptr q),.iface 171 (i6 kT),.bool true] fun kP bK=>?_
  refine iT f164 func164 _ rfl 54 (by kernel_rfl) S1.au fun bb2 a2 B2 mq SE Xm aW S2 dV=>?_
  refine aD F hB SE aW S2 6 [] [] [] [(0,.iface 168 (ptr q)),(1,.iface 171 (i6 kT)),(2,.bool true)] (fun M=>M) 0 6 [] [] fun a3 w3 S3 bD eu fS gD=>?_
  refine Rj F hB SE Xm ch x q e' h1 h2 a3 w3 B2 bD (by omega) (by omega) S3 fun w4 h4 Ay=>bK _ _ _ h4 fun a5 B5 S5 dU jT=>?_
  refine aD F hB af dU S5 2 [] [] [] [(4,.bool (List.any (x::ch) fun y=>y.k==kT))] (fun M=>M) 0 31 [false] [] fun a6 w6 S6 kF xX GO Mk=>?_
  refine dA F S6 af aJ kF [] (.bool (List.any (x::ch) fun y=>y.k==kT)) ?_;exact K w6 S6.au (by omega)
theorem AJ(F:aC prog main (DX Ok) Ψ)(hB:HB B Ok){cf:Frame}{cs:List Frame}{w:World}{C:List ah}{b:Bk}{e:Value}(he:rS C e b.ch)(aN:b.ch≠[])(hS:Sat Ok w C)(ey:B≤w.heap.size)(K:∀w',Sat Ok w' C→w.heap.size≤w'.heap.size→Ψ (G (cf.finish (.bool (cH b 2||cH b 5))) cs) w'):
 Ψ (G (Frame.enter prog 158 #[e] .normal) (cf::cs)) w:=by
 obtain⟨q,hq⟩:∃q,e=.iface 168 (ptr q):=by
  cases eC:b.ch with
  |nil=>exact absurd eC aN
  |cons y ch=>rw[eC] at he;obtain⟨q,_,h,_⟩:=he;exact⟨q,h⟩
 subst hq;refine iT f158 func158 _ rfl 11 (by kernel_rfl) hS fun bb a0 B1 hn af aJ aP S0 dH=>?_
 refine aD F hB af aP S0 8 [] [] [] [(4,.iface 171 (i6 2)),(3,.iface 168 (ptr q)),(0,.iface 168 (ptr q))] (fun M=>M) 0 8 [] [] fun a1 w1 S1 aG ck cV cW=>?_
 refine fT F af aG S1 5 163 #[.iface 168 (ptr q),.iface 171 (i6 2)] fun kP bK=>?_
 refine Ri F hB he aN S1.au (by omega) fun w2 h2 kX=>bK _ _ _ h2 fun a2 B2 S2 aW dV=>?_
 change St Ok B2 11 ((5,.bool (cH b 2))::_) C 0 a2 w2 at S2
 cases h:cH b 2 with
 |true=>
  rw[h] at S2 K;refine aD F hB af aW S2 7 [] [3,3,3] [] [(2,.bool true)] (fun M=>M) 0 16 [] [] fun a3 w3 S3 bD eu fS gD=>?_
  refine dA F S3 af aJ bD [] (.bool true) ?_;exact K w3 S3.au (by omega)
 |false=>
  rw[h] at S2 K;refine aD F hB af aW S2 3 [] [1,1] [] [(8,.iface 171 (i6 5)),(6,.bool false),(7,.iface 168 (ptr q))] (fun M=>M) 0 12 [] [] fun a3 w3 S3 bD eu fS gD=>?_
  refine fT F af bD S3 9 163 #[.iface 168 (ptr q),.iface 171 (i6 5)] fun vO ij=>?_
  refine Ri F hB he aN S3.au (by omega) fun w4 h4 Ay=>ij _ _ _ h4 fun a4 B4 S4 fC oJ=>?_
  change St Ok B4 11 ((9,.bool (cH b 5))::_) C 0 a4 w4 at S4
  rw[Bool.false_or] at K;refine aD F hB af fC S4 3 [] [] [] [(2,.bool (cH b 5))] (fun M=>M) 0 16 [] [] fun a5 w5 S5 dU jT kC rq=>?_
  refine dA F S5 af aJ dU [] (.bool (cH b 5)) ?_;exact K w5 S5.au (by omega)
end
def LS.nF(L:LS)(t j:Nat)(n:Int):LS:={L with tk:=upd L.tk t {L.tk t with a:=upd (L.tk t).a j n}}
theorem Es{V:Ev0}{Lf:LS}{m t j:Nat}{L:LS}(hj:j<V.nl)(hk:(V.ly j).k=1)(h:Fin V Lf m (some (t,j,none)) L):∃m0,m=m0+1∧Fin V Lf m0 (some (t,j+1,none)) (L.nF t j 1):=by
 cases m with
 |zero=>exact h.elim
 |succ m=>
  obtain⟨h1,h2,h3,h4⟩:=h;have e:(j=V.nl)=False:=by simp;omega
  simp only[LS.step,e,if_false,hk,if_true] at h4;exact⟨m,rfl,h4⟩
structure Ue(V:Ev0)(Lf:LS)(m0 t j:Nat)(b:Bk)(L:LS):Prop where
 sk:Fc V t L
 bk:Ud b
 an:1≤(L.tk t).a j∧(L.tk t).a j≤(V.ly j).a
 out:(b.k≠2∨cH b 2=true∨cH b 5=true)→Fin V Lf m0 (some (t,j,some b)) L
 up:¬(b.k≠2∨cH b 2=true∨cH b 5=true)→(L.tk t).a j=(V.ly j).a→Fin V Lf m0 (some (t,j,some ⟨2,0,⟨7,j,0⟩::b.ch⟩)) (L.say t j 4 0)
 on:¬(b.k≠2∨cH b 2=true∨cH b 5=true)→(L.tk t).a j≠(V.ly j).a→0<aH (V.ly j) ((L.tk t).a j)→Fin V Lf m0 none (((L.say t j 3 (aH (V.ly j) ((L.tk t).a j))).nF t j ((L.tk t).a j+1)).wait t j (aH (V.ly j) ((L.tk t).a j)))
 on0:¬(b.k≠2∨cH b 2=true∨cH b 5=true)→(L.tk t).a j≠(V.ly j).a→¬0<aH (V.ly j) ((L.tk t).a j)→Fin V Lf m0 (some (t,j+1,none)) ((L.say t j 3 (aH (V.ly j) ((L.tk t).a j))).nF t j ((L.tk t).a j+1))
theorem Eu{V:Ev0}{Lf:LS}{m t j:Nat}{L:LS}{b:Bk}(hk:(V.ly j).k=1)(h:Fin V Lf m (some (t,j+1,some b)) L):∃m0,m=m0+1∧Ue V Lf m0 t j b L:=by
 cases m with
 |zero=>exact h.elim
 |succ m=>
  obtain⟨h1,h2,h3,h4⟩:=h;have e:(j+1=0)=False:=by simp
  have ha:=(h3 b rfl).2 (by omega);rw[Nat.add_sub_cancel] at ha;refine⟨m,rfl,h1,(h3 b rfl).1,ha hk,fun hb=>?_,fun hb hn=>?_,fun hb hn hp=>?_,fun hb hn hp=>?_⟩
  ·simp only[LS.step,e,if_false,Nat.add_sub_cancel,hk,if_true,hb] at h4
   exact h4
  ·simp only[LS.step,e,if_false,Nat.add_sub_cancel,hk,if_true,hb,hn] at h4
   exact h4
  ·simp only[LS.step,e,if_false,Nat.add_sub_cancel,hk,if_true,hb,hn,gt_iff_lt,hp] at h4
   exact h4
  ·simp only[LS.step,e,if_false,Nat.add_sub_cancel,hk,if_true,hb,hn,gt_iff_lt,hp] at h4
   exact h4
theorem mh{c d:Int}(hc:1≤c)(hd:0≤d):∀(m:Nat)(p:Int),0≤p→min (dZ c d (m+1) p) d=min (min (dZ c d m p) d*c) d∧0≤dZ c d m p
 |0,p,hp=>by
  refine⟨?_,hp⟩
  show min (if p≤d then p*c else p) d=min (min p d*c) d
  by_cases h:p≤d
  ·rw[if_pos h,Int.min_eq_left h]
  ·rw[if_neg h,Int.min_eq_right (by omega)]
   have h2:d≤d*c:=by have:=Int.mul_le_mul_of_nonneg_left hc hd;rwa[Int.mul_one] at this
   rw[Int.min_eq_right h2]
 |m+1,p,hp=>by
  have e1:dZ c d (m+2) p=if p≤d then dZ c d (m+1) (p*c) else p:=rfl
  have e2:dZ c d (m+1) p=if p≤d then dZ c d m (p*c) else p:=rfl
  rw[e1,e2]
  by_cases h:p≤d
  ·rw[if_pos h,if_pos h]
   exact mh hc hd m (p*c) (Int.mul_nonneg hp (by omega))
  ·rw[if_neg h,if_neg h]
   refine⟨?_,hp⟩;rw[Int.min_eq_right (by omega)];have h2:d≤d*c:=by have:=Int.mul_le_mul_of_nonneg_left hc hd;rwa[Int.mul_one] at this
   rw[Int.min_eq_right h2]
theorem jB(y:Ff)(n:Int):aH y n=min (dZ y.c y.d (n-1).toNat y.b) y.d:=by
 unfold aH;simp only[Int.min_def];split<;>split<;>omega
theorem yK(y:Ff):aH y 1=min y.b y.d:=by rw[jB];rfl
theorem wD{y:Ff}(hb:0≤y.b)(hc:1≤y.c)(hd:0≤y.d){n:Int}(hn:1≤n):aH y (n+1)=min (aH y n*y.c) y.d:=by
 rw[jB,jB,show(n+1-1).toNat=(n-1).toNat+1 by omega];exact(mh hc hd _ _ hb).1
theorem Ai{y:Ff}(hb:0≤y.b)(hc:1≤y.c)(hd:0≤y.d)(n:Int):0≤aH y n∧aH y n≤y.d:=by
 rw[jB];have:=(mh hc hd (n-1).toNat y.b hb).2;omega
theorem Nq(L:LS)(t:Nat)(l d:Int):(L.wait t l d).Nr L.wl ⟨0,0,[]⟩=L.wait t l d:=by
 unfold LS.Nr LS.wait LS.put LS.c8
 simp only
 congr 1
 funext i
 unfold upd
 by_cases e:i=L.wl<;>simp[e]
theorem PS.VL{s:PS}{L:LS}(h:s.l=L):∃s0:PS,s={s0 with l:=L}:=⟨s,by cases s;simp at h;subst h;rfl⟩
section
variable{γ:Type}{E:TE γ}{kk:PK}{Lf:LS}{t:Nat}
theorem Cn.nF{p:γ}{s:PS}{w:World}{v:Value}{R:List ah}(C:Cn E kk t p s w v R)(j:Nat)(n:Int):Cn E kk t p {s with l:=s.l.nF t j n} w v R:=
 ⟨C.au,⟨C.pv.jr,C.pv.en,C.pv.eo⟩,⟨C.qi.lt,C.qi.all,C.qi.DT,C.qi.ws⟩,C.fl,C.jH,C.bd,C.gu.trans ⟨rfl,rfl,rfl,rfl,rfl,rfl,rfl,rfl,rfl,fun i hi=>by show upd _ _ _ i=_;simp[upd,hi],fun _ _=>rfl,fun _ _=>⟨rfl,rfl⟩⟩,C.hk,C.ql⟩
theorem Nf(W:pU E kk Lf t){p:γ}{s:PS}{w:World}{v:Value}{R:List ah}(C:Cn E kk t p s w v R)(hk:Fc kk.V t s.l){j:Nat}(hj:j<kk.V.nl){pz n:Int}(hp:0≤pz∧pz≤10000){m:Nat}(gX:0<pz→Fin kk.V Lf m none (((s.l.say t j 3 pz).nF t j n).wait t j pz))(jo:¬0<pz→Fin kk.V Lf m (some (t,j+1,none)) ((s.l.say t j 3 pz).nF t j n))(AN:m≤E.sj p){c:Frame}{cs:List Frame}(K:∀m' p' s' w' v',m'≤m→m'≤E.sj p'→Cn E kk t p' s' w' v' R→Fin kk.V Lf m' (some (t,j+1,none)) s'.l→(s'.l.tk t).a=(((s.l.say t j 3 pz).nF t j n).tk t).a→E.Ψ p' (G (c.finish (.bool true)) cs) w'):
 E.Ψ p (G (Frame.enter prog 157 #[ptr (kk.lb j),ptr (kk.T t),i6 pz] .normal) (c::cs)) w:=by
 have F:=W.f p;have hB:=W.hB p;have vE:=C.bd;have hS:=C.au;refine iT f157 func157 _ rfl 24 (by kernel_rfl) hS fun bb a0 B1 hn af aJ aP S0 dH=>?_
 refine aD F hB af aP S0 11 [] [] [] [(11,i6 pz),(10,ptr (kk.T t)),(9,ptr (kk.lb j)),(1,ptr (kk.T t)),(2,i6 pz)] (fun M=>M) 0 11 [] [] fun a1 w1 S1 aG ck cV cW=>?_
 refine fT F af aG S1 12 149 #[ptr (kk.lb j),ptr (kk.T t),i6 3,i6 pz] fun kP bK=>?_
 refine sP W {C with au:=S1.au,bd:=by omega} hk.el hk.tc (C.jH.lay j hj) fun s2 w2 C2 e2 kX=>bK _ _ _ C2.au fun a2 B2 S2 aW dV=>?_
 have aas:=C2.bd;obtain⟨s2,rfl⟩:=PS.VL e2;have C3:=C2.nF j n
 by_cases h0:pz=0
 ·subst h0
  refine aD F hB af aW S2 35 [7,0,2,1] [1,3,3,3,3,3] [] [(6,.bool true)] (fun M=>M) 0 34 [false] [] fun a3 w3 S3 bD eu fS gD=>?_
  refine dA F S3 af aJ bD [] (.bool true) ?_;exact K m p {s2 with l:=(s.l.say t j 3 0).nF t j n} w3 v (Nat.le_refl _) AN {C3 with au:=S3.au,bd:=by omega} (jo (by omega)) rfl
 ·have NZ:0<pz:=by omega
  refine cJ F hB af aW S2 29 [7,0,2,1] [1,0,1] [] [(19,i6 pz),(17,.bool false),(18,ptr (kk.T t))] (fun M=>M) 0 28 [false] [] [(pz==0,false)] [] [] fun a3 w3 S3 bD eu fS gD=>?_
  refine fT F af bD S3 20 162 #[ptr (kk.T t),i6 pz] fun vO ij=>?_
  have RX:=hk.now;refine yt (s:={s2 with l:=(s.l.say t j 3 pz).nF t j n}) (t:=t) (aX:=kk.aX t) (ly:=j) F hB (w:=w3) S3.au (by have h5:=(C2.jH.qb t W.tn).pre (E.O p);have h6:s2.k=kk:=C2.hk;show Has _ (Qs _ s2.k.A _ _);rw[h6];exact h5) C3.pv C3.qi C3.fl (by omega) C3.ql (by show _≤s.l.now+pz;omega) (by show s.l.now+pz<_;omega) fun i x en eb w4 h4 NO Q4 hi Uz Rp=>ij _ _ _ h4 fun a4 B4 S4 fC oJ=>?_
  refine OZ F af fC 21 153 #[ptr x] (by kernel_rfl) (by kernel_rfl) (by decide) S4 fun cf4 Om=>?_
  refine W.wait p {s2 with l:=(s.l.say t j 3 pz).nF t j n} w4 i x en eb j pz ⟨0,0,[]⟩ cf4 _ R (ptr x) m C3.gu C3.hk (by omega) hi S4.au NO Q4 C3.fl C3.jH (by omega) (by rw[Nq];exact gX NZ) AN fun p' s' w5 m' uR dr C' f1 f2 f3 f4 f5=>Om.ret _ _ _ _ _ C'.au fun a5 B5 S5 dU jT=>?_
  have xh:=C'.bd;replace F:=W.f p';replace hB:=W.hB p';obtain⟨hs5,AV⟩:=f1
  have Og:Fin kk.V Lf m' (some (t,j+1,none)) s'.l:=by
   rcases AV with ⟨z,_⟩|⟨k,kE,_,bE,cL⟩
   ·rw[f2] at z;omega
   ·rw[f2] at bE
    have:k=j:=by omega
    rw[this] at cL;exact cL
  refine aD F hB af dU S5 4 [] [1] [] [(6,.bool true)] (fun M=>M) 0 34 [false] [] fun a6 w6 S6 kF xX GO Mk=>?_
  refine dA F S6 af aJ kF [] (.bool true) ?_;exact K m' p' s' w6 (ptr x) (by omega) dr {C' with au:=S6.au,bd:=by omega} Og f4
end
section
variable{γ:Type}{E:TE γ}{kk:PK}{Lf:LS}{t:Nat}
theorem Cn.drop{p:γ}{s:PS}{w:World}{v:Value}{X R:List ah}(C:Cn E kk t p s w v (X++R))(h:zA kk R):Cn E kk t p s w v R:=
 ⟨C.au.sub (List.Sublist.append_left (.cons_cons _ (List.Sublist.append_right (List.sublist_append_right X R) _)) _),C.pv,C.qi,cN.2 fun r hr=>cN.1 C.fl r (by
  simp only[List.mem_append] at hr ⊢;exact hr.imp_left .inr),h,C.bd,C.gu,C.hk,C.ql⟩
theorem GA(x y:Int):(if y<x then y else x)=min x y:=by rw[Int.min_def];split<;>split<;>omega
theorem Jv(W:pU E kk Lf t){j:Nat}(hj:j<kk.V.nl)(hk:(kk.V.ly j).k=1)(IH:jS E kk Lf t (j+1)){R:List ah}(bN:zA kk R){c:Frame}{cs:List Frame}{bb:Frame}(hn:TZ bb 156)(g:Nat→Int):
 ∀(m:Nat)(n:Int)(p:γ)(s:PS)(w:World)(v:Value)(a0:Act)(B1:Nat),Cn E kk t p s w v R→Fin kk.V Lf m (some (t,j+1,none)) s.l→m≤E.sj p→(s.l.tk t).a j=n→(1≤n∧n≤(kk.V.ly j).a)→(∀i,i<j→(s.l.tk t).a i=g i)→a0.defers=[]→w.heap.size=B1→
   St (E.Ok p) B1 80 [(7,i6 n),(6,i6 (aH (kk.V.ly j) n)),(0,ptr (kk.lb j)),(1,ptr (kk.T t))] (pM s++(jw (kk.T t) v false::(R++E.O p))) 0 a0 w→
   (∀m' p' s' w' v' X r b,m'<m→m'≤E.sj p'→Cn E kk t p' s' w' v' (X++R)→Fin kk.V Lf m' (some (t,j,some b)) s'.l→Pg X r b→(∀i,i<j→(s'.l.tk t).a i=g i)→E.Ψ p' (G (ends c r) cs) w')→
   E.Ψ p (G (bb.at a0 (pc prog 156 16 [] [8])) (c::cs)) w:=by
 intro m
 induction m using Nat.strongRecOn with
 |_ m ihm=>
 intro n p s w v a0 B1 C hf AN ha cP hg aP dH S0 K;have F:=W.f p;have hB:=W.hB p;have vE:=C.bd;have af:=hn.k;have aJ:=hn.f;obtain⟨ty,qV,UL⟩:=Gs W.V hj;have pI:=bN.lay j hj;rw[qV] at pI;unfold jS at IH;generalize lO kk.V (j+1)=gf at*;have hV:=W.V.rt j hj hk;replace S0:=S0.get ((pI.pre (E.O p)).cons.app (pM s));refine aD F hB af aP S0 10 [0,0,0,1] [] [] [(27,ptr (kk.T t)),(26,.iface ty (.pointer (some (Addr.mk (kk.lb (j+1)) 0 none)))),(7,i6 n),(6,i6 (aH (kk.V.ly j) n)),(0,ptr (kk.lb j)),(1,ptr (kk.T t))] (fun M=>M) 0 26 [] [8] fun a1 w1 S1 aG ck cV cW=>?_
 refine OZ F af aG 28 gf #[ptr (kk.lb (j+1)),ptr (kk.T t)] (by rcases UL with ⟨rfl,rfl⟩|⟨rfl,rfl⟩|⟨rfl,rfl⟩<;>kernel_rfl) (by kernel_rfl) (by decide) S1 fun cf uV=>?_
 refine IH m p s w1 v R cf (c::cs) {C with au:=S1.au.tail,bd:=by omega} hf AN fun m' p' s' w' v' X r b uR dr C' nP hr mA=>?_
 obtain⟨m1,rfl,A⟩:=Eu hk nP;have xh:=C'.bd;replace F:=W.f p';replace hB:=W.hB p';have UP:(s'.l.tk t).a j=n:=(mA j (by omega)).trans ha;have Of:∀i,i<j→(s'.l.tk t).a i=g i:=fun i hi=>(mA i (by omega)).trans (hg i hi)
 rcases hr with ⟨hb,rfl⟩|⟨hb,e,rfl,he⟩|⟨hb,rfl⟩
 ·refine uV.ret _ _ _ _ _ C'.au fun a2 B2 S2 aW dV=>?_
  refine aD F hB af aW S2 24 [] [3,3,3] [] [(5,.nilIface),(4,i6 b.n)] (fun M=>M) 0 51 [true] [8] fun a3 w3 S3 bD eu fS gD=>?_
  refine dA F S3 af aJ bD [] (.tuple #[i6 b.n,.nilIface]) ?_;exact K m1 p' s' w3 v' X (.inl (.tuple #[i6 b.n,.nilIface])) b (by omega) (by omega) {C' with au:=S3.au,bd:=by omega} (A.out (.inl (by omega))) (.inl ⟨hb,rfl⟩) Of
 ·have aN:b.ch≠[]:=by
   rcases A.bk.2 with ⟨z,_⟩|⟨_,_,z⟩|⟨z,_⟩
   ·omega
   ·exact z
   ·omega
  obtain⟨q,rfl⟩:∃q,e=.iface 168 (ptr q):=by
   cases eC:b.ch with
   |nil=>exact absurd eC aN
   |cons y ch=>rw[eC] at he;obtain⟨q,_,h,_⟩:=he;exact⟨q,h⟩
  refine uV.ret _ _ _ _ _ C'.au fun a2 B2 S2 aW dV=>?_
  refine aD F hB af aW S2 13 [] [1] [] [(34,.iface 168 (ptr q)),(33,.bool false),(9,.iface 168 (ptr q)),(8,i6 0),(7,i6 n),(6,i6 (aH (kk.V.ly j) n)),(0,ptr (kk.lb j)),(1,ptr (kk.T t))] (fun M=>M) 0 40 [] [8] fun a3 w3 S3 bD eu fS gD=>?_
  refine fT F af bD S3 35 158 #[.iface 168 (ptr q)] fun vO ij=>?_
  have heM:rS (pM s'++(jw (kk.T t) v' false::((X++R)++E.O p'))) (.iface 168 (ptr q)) b.ch:=he.up fun r hr=>(((hr.pre R).pre (E.O p')).cons).app (pM s')
  refine AJ F hB heM aN S3.au (by omega) fun w4 h4 Ay=>ij _ _ _ h4 fun a4 B4 S4 fC oJ=>?_
  by_cases hh:cH b 2=true∨cH b 5=true
  ·have Sg:(cH b 2||cH b 5)=true:=by simpa using hh
   rw[Sg] at S4;refine aD F hB af fC S4 10 [] [3] [] [(5,.iface 168 (ptr q)),(4,i6 0)] (fun M=>M) 0 51 [true] [8] fun a5 w5 S5 dU jT kC rq=>?_
   refine dA F S5 af aJ dU [] (.tuple #[i6 0,.iface 168 (ptr q)]) ?_;exact K m1 p' s' w5 v' X (.inl (.tuple #[i6 0,.iface 168 (ptr q)])) b (by omega) (by omega) {C' with au:=S5.au,bd:=by omega} (A.out (.inr hh)) (.inr (.inl ⟨hb,_,rfl,he⟩)) Of
  ·have Sg:(cH b 2||cH b 5)=false:=by simpa using hh
   rw[Sg] at S4;have gS:¬(b.k≠2∨cH b 2=true∨cH b 5=true):=fun z=>z.elim (fun y=>y hb) hh
   replace S4:=(S4.get ((((bN.Ip j hj hk).app X).pre (E.O p')).cons.app (pM s'))).get (((((pI.app X).pre (E.O p')).cons).app (pM s')).cons)
   by_cases EX:n=(kk.V.ly j).a
   ·refine cJ F hB af fC S4 21 [1,0,0,1] [1,2] [] [(48,ptr (kk.T t)),(47,ptr (kk.lb j)),(9,.iface 168 (ptr q)),(0,ptr (kk.lb j))] (fun M=>M) 0 62 [false,true] [8] [(n==(kk.V.ly j).a,true)] [] [] fun a5 w5 S5 dU jT kC rq=>?_
    refine fT F af dU S5 49 149 #[ptr (kk.lb j),ptr (kk.T t),i6 4,i6 0] fun TF xg=>?_
    refine sP W {C' with au:=S5.au.tail.tail,bd:=by omega} A.sk.el A.sk.tc (pI.app X) fun s6 w6 C6 e6 GO=>xg _ _ _ (C6.au.get ((((pI.app X).pre (E.O p')).cons).app (pM s6))) fun a6 B6 S6 kF xX=>?_
    have SF:=C6.bd;refine aD F hB af kF S6 27 [0,0,1,1] [] [] [(5,.iface 168 (ptr B6)),(4,i6 0)] (fun M=>bR (B6) [i6 7,i6 j,i6 0,.iface 168 (ptr q)]::(M)) 1 76 [false,true] [8] fun a7 w7 S7 lN ur Ea Kt=>?_
    refine dA F S7 af aJ lN [] (.tuple #[i6 0,.iface 168 (ptr B6)]) ?_;have ZV:=A.up gS (UP.trans EX);rw[←e6] at ZV;exact K m1 p' s6 w7 v' (oR B6 0 [i6 7,i6 j,i6 0,.iface 168 (ptr q)] false::X) _ _ (by omega) (by omega) ⟨(Sat.HQ (A:=[oR B6 0 [i6 7,i6 j,i6 0,.iface 168 (ptr q)] false]) S7.au.fix).perm (je (A:=pM s6)),C6.pv,C6.qi,C6.fl.cons rfl,C6.jH.cons,by omega,C6.gu,C6.hk,C6.ql⟩ ZV (.inr (.inl ⟨rfl,_,rfl,B6,.iface 168 (ptr q),rfl,⟨rfl,0,rfl⟩,he.up fun r hr=>hr.cons⟩)) fun i hi=>by rw[e6];exact Of i hi
   ·refine cJ F hB af fC S4 22 [1,0,0,1] [1,0] [] [(59,i6 (aH (kk.V.ly j) n)),(58,ptr (kk.T t)),(57,ptr (kk.lb j)),(35,.bool false),(34,.iface 168 (ptr q)),(7,i6 n),(6,i6 (aH (kk.V.ly j) n)),(0,ptr (kk.lb j)),(1,ptr (kk.T t))] (fun M=>M) 0 63 [false,false] [8] [(n==(kk.V.ly j).a,false)] [] [] fun a5 w5 S5 dU jT kC rq=>?_
    refine OZ F af dU 60 157 #[ptr (kk.lb j),ptr (kk.T t),i6 (aH (kk.V.ly j) n)] (by kernel_rfl) (by kernel_rfl) (by decide) S5 fun TF xg=>?_
    have N1:=Ai hV.2.1.1 hV.2.2.1.1 hV.2.2.2.1 n;have f1:=A.on gS (by rw[UP];exact EX);have f0:=A.on0 gS (by rw[UP];exact EX);rw[UP] at f1 f0;refine Nf W {C' with au:=S5.au.tail.tail,bd:=by omega} A.sk hj ⟨by omega,by omega⟩ f1 f0 (by omega) fun m6 p6 s6 w6 v6 hm6 ZL C6 hf6 Z3=>xg.ret _ _ _ _ _ ((C6.drop bN).au.get ((((bN.Ip j hj hk).pre (E.O p6)).cons).app (pM s6))) fun a6 B6 S6 kF xX=>?_
    have C7:=C6.drop bN;have SF:=C6.bd;replace F:=W.f p6;replace hB:=W.hB p6;refine aD F hB af kF S6 15 [0,0,2,2] [1] [10] [(7,i6 (IntKind.wrap .i64 (n+1))),(6,i6 (if(kk.V.ly j).d<IntKind.wrap .i64 (aH (kk.V.ly j) n*(kk.V.ly j).c) then(kk.V.ly j).d else IntKind.wrap .i64 (aH (kk.V.ly j) n*(kk.V.ly j).c))),(35,.bool false),(34,.iface 168 (ptr q)),(0,ptr (kk.lb j)),(1,ptr (kk.T t))] (fun M=>M) 0 79 [false,false,false] [8,10] fun a7 w7 S7 lN ur Ea Kt=>?_
    have Ce:IntKind.wrap .i64 (n+1)=n+1:=bI (by omega) (by omega);have LN:0≤aH (kk.V.ly j) n*(kk.V.ly j).c∧aH (kk.V.ly j) n*(kk.V.ly j).c≤10000*9:=⟨Int.mul_nonneg (by omega) (by omega),Int.mul_le_mul (by omega) (by omega) (by omega) (by omega)⟩;have EU:IntKind.wrap .i64 (aH (kk.V.ly j) n*(kk.V.ly j).c)=aH (kk.V.ly j) n*(kk.V.ly j).c:=bI (by omega) (by omega);rw[Ce,EU,GA,←wD hV.2.1.1 hV.2.2.1.1 hV.2.2.2.1 cP.1] at S7;rw[show pc prog 156 79 [false,false,false] [8,10]=pc prog 156 16 [] [8] by kernel_rfl];have S8:=S7.fZ [(7,i6 (n+1)),(6,i6 (aH (kk.V.ly j) (n+1))),(0,ptr (kk.lb j)),(1,ptr (kk.T t))] (by kernel_rfl);refine ihm m6 (by omega) (n+1) p6 s6 w7 v6 a7 B6 {C7 with au:=S7.au.tail,bd:=by omega} hf6 ZL ?_ ⟨by omega,by omega⟩ (fun i hi=>?_) lN ur ⟨S8.env,S8.au.tail,S8.sz⟩ fun m' p' s' w' v' X r b h1=>K m' p' s' w' v' X r b (by omega)
    ·rw[Z3];simp[LS.nF,upd]
    ·rw[Z3]
     have aN:i≠j:=by omega
     simp only[LS.nF,upd,if_true,aN,if_false];exact Of i hi
 ·obtain⟨a2,t2,rfl,aW,eG⟩:=uV.U3
  show E.Ψ p' (G ((bb.at a2 t2).raise (nW (.iface 166 (i6 b.n)))) (c::cs)) w'
  rw[raise_at hn.m];refine F.yL aW (by rw[aJ];exact func156) ?_;exact K m1 p' s' w' v' X (.inr (.iface 166 (i6 b.n))) b (by omega) (by omega) C' (A.out (.inl (by omega))) (.inr (.inr ⟨hb,rfl⟩)) Of
theorem Jw(W:pU E kk Lf t){j:Nat}(hj:j<kk.V.nl)(hk:(kk.V.ly j).k=1)(IH:jS E kk Lf t (j+1)):jS E kk Lf t j:=by
 intro m p s w v R c cs C hf AN K;rw[show lO kk.V j=156 by unfold lO;rw[if_neg (by omega),if_pos hk]];have F:=W.f p;have hB:=W.hB p;have vE:=C.bd;have hS:=C.au.get (((C.jH.Ip j hj hk).pre (E.O p)).cons.app (pM s));obtain⟨m0,rfl,jo⟩:=Es hj hk hf;refine iT f156 func156 _ rfl 80 (by kernel_rfl) hS fun bb a0 B1 hn af aJ aP S0 dH=>?_
 refine aD F hB af aP S0 16 [0,0,1,1,0,0,3,1] [] [8] [(7,i6 1),(6,i6 (if(kk.V.ly j).d<(kk.V.ly j).b then(kk.V.ly j).d else(kk.V.ly j).b)),(0,ptr (kk.lb j)),(1,ptr (kk.T t))] (fun M=>M) 0 16 [] [8] fun a1 w1 S1 aG ck cV cW=>?_
 rw[GA,←yK] at S1;have ha:=(W.V.rt j hj hk).1;refine Jv W hj hk IH C.jH hn (fun i=>(s.l.tk t).a i) m0 1 p {s with l:=s.l.nF t j 1} w1 v a1 B1 {C.nF j 1 with au:=S1.au.tail,bd:=by omega} jo (by omega) ?_ ⟨by omega,by omega⟩ (fun i hi=>?_) aG ck ⟨S1.env,S1.au.tail,S1.sz⟩ fun m' p' s' w' v' X r b h1=>K m' p' s' w' v' X r b (by omega)
 ·simp[LS.nF,upd]
 ·have aN:i≠j:=by omega
  simp[LS.nF,upd,aN]
theorem CJ(W:pU E kk Lf t):∀n j,j+n=kk.V.nl→jS E kk Lf t j
 |0,j,h=>by have e:j=kk.V.nl:=h;rw[e];exact O6 W
 |n+1,j,h=>by
  have IH:=CJ W n (j+1) (by omega);rcases W.V.kd j (by omega) with z|z
  ·exact Jw W (by omega) z IH
  ·exact Kr W (by omega) z IH
end
end Go.Proofs.YtobagnjnbmgidaaGreatDoor
