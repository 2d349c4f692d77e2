import Derived.Test.YtobagnjnbmgidaaGreatDoorP1
set_option linter.all false
set_option maxHeartbeats 8000000
set_option maxRecDepth 100000
namespace Go.Proofs.YtobagnjnbmgidaaGreatDoor
open Go.Conc Go.RowKit Tryz
section
variable{main:Bool}{B:Nat}{Ok:Addr→Bool→Prop}{Ψ:Goroutine→World→Prop}
abbrev PS.zE(s:PS)(t:Nat)(n:Int):PS:={s with l:={s.l with us:=upd s.l.us t n}}
theorem KM(F:aC prog main (DX Ok) Ψ)(hB:HB B Ok){cf:Frame}{cs:List Frame}{w:World}{s:PS}{C:List ah}{t n:Nat}(hS:Sat Ok w (pM s++C))(hc:zA s.k C)(ht:t<s.k.V.nc)(EV:s.l.us t=n)(cP:n<1000000)(ey:B≤w.heap.size)(K:∀w',Sat Ok w' (pM (s.zE t (n+1))++C)→w.heap.size≤w'.heap.size→Ψ (G (cf.finish (.tuple #[i6 n,.agg (uq (aY s.k.V t n)).toArray])) cs) w'):
 Ψ (G (Frame.enter prog 147 #[ptr (s.k.lb s.k.V.nl),i6 t] .normal) (cf::cs)) w:=by
 replace hS:=(hS.get (hc.X9.app (pM s))).get ((hc.Qb.app (pM s)).cons);have hw:IntKind.wrap .i64 ((n:Int)+1)=(n:Int)+1:=bI (by omega) (by omega)
 by_cases aT:n<s.k.V.nt t
 ·obtain⟨ta,V7,h5⟩:=hc.Im t ht (by omega)
  replace hS:=hS.get ((h5.app (pM s)).cons.cons);refine iT f147 func147 _ rfl 43 (by kernel_rfl) hS fun bb a0 B1 hn af aJ aP S0 dH=>?_
  refine cJ F hB af aP S0 26 [3,0,1,1,9,t,0,101,3,0,1,1,9,t,0,101] [2,2] [] [(22,i6 (IntKind.wrap .i64 (s.l.us t+1))),(19,i6 t),(18,.slice (some ⟨s.k.HD,0,none⟩) s.k.V.nc s.k.V.nc),(6,i6 (s.l.us t)),(5,ptr B1),(0,ptr (s.k.lb s.k.V.nl)),(1,i6 t)] (fun M=>bR (B1) [i6 0,i6 0,i6 0]::(M)) 1 26 [] [] [] [((↑t:Int),s.k.V.nc),((↑t:Int),s.k.V.nc)] [(2,(t,s.k.V.nc))] fun a1 w1 S1 aG ck cV cW=>?_
  rw[EV,hw] at S1;refine cJ F hB af aG S1 25 [9,t,0,101,3,0,0,1,2,t,1,101] [2,2,2] [] [(7,.slice (s.k.eH t) (s.k.V.nt t) (s.k.fF t)),(6,i6 n),(5,ptr B1)] (fun M=>gH 9 (t,0) (i6 ((↑n:Int)+1)) (M)) 1 51 [true] [] [(decide ((↑n:Int)<(↑(s.k.V.nt t):Int)),true)] [((↑t:Int),s.k.V.nc),((↑t:Int),s.k.V.nc)] [(2,(t,s.k.V.nc))] fun a2 w2 S2 aW dV kX A8=>?_
  rw[V7] at S2;refine cJ F hB af aW S2 3 [1,n,0,103,0,0,0,3] [2] [6] [(4,i6 n),(5,ptr B1)] (fun M=>gH 0 (0,2) (i6 (s.k.V.tr t n).t) (gH 0 (0,1) (i6 (s.k.V.tr t n).n) (gH 0 (0,0) (i6 (s.k.V.tr t n).k) (M)))) 1 54 [true] [6] [] [((↑n:Int),s.k.V.nt t)] [(3,(n,s.k.V.nt t))] fun a3 w3 S3 bD eu fS gD=>?_
  refine dA F S3 af aJ bD [0,0,0,3] (.tuple #[i6 n,.agg #[i6 (s.k.V.tr t n).k,i6 (s.k.V.tr t n).n,i6 (s.k.V.tr t n).t]]) ?_;have e:aY s.k.V t n=s.k.V.tr t n:=by unfold aY;rw[if_pos aT]
  rw[e] at K;exact K w3 (S3.au.tail.tail.tail.tail.re 5 rfl rfl _ fun j _ f _=>iz (C:=fun z=>[i6 z]) rfl Nat.zero_lt_one j f) (by omega)
 ·refine iT f147 func147 _ rfl 43 (by kernel_rfl) hS fun bb a0 B1 hn af aJ aP S0 dH=>?_
  refine cJ F hB af aP S0 26 [2,0,1,1,8,t,0,101,2,0,1,1,8,t,0,101] [2,2] [] [(22,i6 (IntKind.wrap .i64 (s.l.us t+1))),(19,i6 t),(18,.slice (some ⟨s.k.HD,0,none⟩) s.k.V.nc s.k.V.nc),(6,i6 (s.l.us t)),(5,ptr B1),(0,ptr (s.k.lb s.k.V.nl)),(1,i6 t)] (fun M=>bR (B1) [i6 0,i6 0,i6 0]::(M)) 1 26 [] [] [] [((↑t:Int),s.k.V.nc),((↑t:Int),s.k.V.nc)] [(2,(t,s.k.V.nc))] fun a1 w1 S1 aG ck cV cW=>?_
  rw[EV,hw] at S1;refine cJ F hB af aG S1 32 [8,t,0,101,2,0,0,1,1,t,1,101,0,0,0,3] [2,2,0] [] [(4,i6 n),(5,ptr B1)] (fun M=>gH 8 (t,0) (i6 ((↑n:Int)+1)) (gH 0 (0,0) (i6 1) (M))) 1 58 [false] [] [(decide ((↑n:Int)<(↑(s.k.V.nt t):Int)),false)] [((↑t:Int),s.k.V.nc),((↑t:Int),s.k.V.nc)] [(2,(t,s.k.V.nc))] fun a2 w2 S2 aW dV kX A8=>?_
  refine dA F S2 af aJ aW [0,0,0,3] (.tuple #[i6 n,.agg #[i6 1,i6 0,i6 0]]) ?_;have e:aY s.k.V t n=⟨1,0,0⟩:=by unfold aY;rw[if_neg aT]
  rw[e] at K;exact K w2 (S2.au.tail.tail.tail.re 5 rfl rfl _ fun j _ f _=>iz (C:=fun z=>[i6 z]) rfl Nat.zero_lt_one j f) (by omega)
end
def rS(C:List ah):Value→List iO→Prop
 |e,[]=>e=.nilIface
 |e,x::ch=>∃q e',e=.iface 168 (ptr q)∧Has C (oR q 0 [i6 x.k,i6 x.l,i6 x.n,e'] false)∧rS C e' ch
theorem rS.up{C C':List ah}(h:∀r,Has C r→Has C' r):∀{ch:List iO}{e:Value},rS C e ch→rS C' e ch
 |[],_,he=>he
 |_::_,_,⟨q,e',h1,h2,h3⟩=>⟨q,e',h1,h _ h2,h3.up h⟩
def Pg(C:List ah)(r:Value ⊕ Value)(b:Bk):Prop:=(b.k=1∧r=.inl (.tuple #[i6 b.n,.nilIface]))∨(b.k=2∧∃e,r=.inl (.tuple #[i6 0,e])∧rS C e b.ch)∨(b.k=3∧r=.inr (.iface 166 (i6 b.n)))
theorem QI.jN{s:PS}(Q:QI s)(g' aj:Nat)(bA:Nat→List Value)(t:Nat)(num q n:Int):QI (s.jN g' aj bA (s.l.say t num q n)):=⟨Q.lt,Q.all,Q.DT,Q.ws⟩
theorem je{A R O:List ah}{tw r:ah}:(r::(A++(tw::(R++O)))).Perm (A++(tw::((r::R)++O))):=by
 have:=(List.perm_middle (a:=r) (l₁:=A++[tw]) (l₂:=R++O)).symm
 simpa using this
theorem St.get{Ok:Addr→Bool→Prop}{B N c:Nat}{E:Env}{M:List ah}{r:ah}{a:Act}{w:World}(S:St Ok B N E M c a w)(h:Has M r):St Ok B N E (r::M) c a w:=⟨S.env,S.au.get h,S.sz⟩
theorem St.fZ{Ok:Addr→Bool→Prop}{B N c:Nat}{E:Env}{M:List ah}{a:Act}{w:World}(S:St Ok B N E M c a w)(E':Env)(h:(E'.map Prod.fst).map (look E)=E'.map (fun p=>some p.2)):St Ok B N E' M c a w:=⟨⟨S.env.sz,fun d u hl=>S.env.val d u (fY E' E h d u hl)⟩,S.au,S.sz⟩
theorem Sat.fix{Ok:Addr→Bool→Prop}{w:World}{q:Nat}{vs:List Value}{M:List ah}(h:Sat Ok w (bR q vs::M)):Sat Ok w (oR q 0 vs false::M):=
 h.Jx 0 rfl (oR q 0 vs false) (fun j hj=>⟨hj,by show(⟨q,0+j.2,none⟩:Addr)=⟨q,j.2,none⟩;rw[Nat.zero_add],rfl⟩) (fun z=>by cases z) rfl
theorem D4{A R O X:List ah}{tw:ah}:(X++(A++(tw::(R++O)))).Perm (A++(tw::((X++R)++O))):=by
 have:=List.perm_append_comm_assoc X (A++[tw]) (R++O)
 simpa using this
theorem jZ{A R O X Y:List ah}{tw:ah}:(A++(tw::((X++(Y++R))++O))).Perm (Y++(A++(tw::((X++R)++O)))):=by
 have:=List.perm_append_comm_assoc (A++(tw::X)) Y (R++O)
 simpa using this
theorem Sat.Ku{Ok:Addr→Bool→Prop}{w:World}{q:Nat}{vs:List Value}{M:List ah}(A:List ah)(h:Sat Ok w (A++(bR q vs::M))):Sat Ok w (A++(oR q 0 vs false::M)):=
 (h.perm List.perm_middle).fix.perm List.perm_middle.symm
theorem Sat.QA{Ok:Addr→Bool→Prop}{w:World}{M Z:List ah}(h:Sat Ok w M)(hz:∀r∈Z,Has M r):Sat Ok w Z:=h.fZ fun i r hr=>by
 have:=hz r (by rw[fW] at hr;exact List.mem_of_getElem? hr);exact⟨this.1,this.2⟩
theorem Has.in{A X R O:List ah}{tw r:ah}(h:Has R r):Has (A++(tw::((X++R)++O))) r:=((h.app X).pre O).cons.app A
theorem cN{M:List ah}:Flat M↔∀r∈M,r.row=none:=⟨fun h r hr=>by
 obtain⟨i,hi⟩:=List.getElem?_of_mem hr;exact h i r (by rw[fW];exact hi),fun h i r hi=>h r (by rw[fW] at hi;exact List.mem_of_getElem? hi)⟩
theorem Flat.Ut{X Y R O:List ah}(h:Flat ((X++(Y++R))++O)):Flat ((X++R)++O):=by
 rw[cN] at h ⊢;intro r hr;refine h r ?_;simp only[List.mem_append] at hr ⊢;rcases hr with (z|z)|z
 ·exact .inl (.inl z)
 ·exact .inl (.inr (.inr z))
 ·exact .inr z
theorem BC{Ok:Addr→Bool→Prop}{w:World}(A:List ah){R O:List ah}{q:Nat}{vs:List Value}{r b tw:ah}(h:Sat Ok w (bR q vs::r::(A++(tw::(b::R++O))))):Sat Ok w (A++(tw::(([oR q 0 vs false]++R)++O))):=
 ((Sat.HQ (A:=[oR q 0 vs false]) h.fix).perm (je (A:=A))).sub (List.Sublist.append_left (List.Sublist.cons_cons _ (List.Sublist.cons_cons _ (List.sublist_cons_self _ _))) _)
theorem BD{Ok:Addr→Bool→Prop}{w:World}(A:List ah){R O:List ah}{b tw:ah}(h:Sat Ok w (A++(tw::(b::R++O)))):Sat Ok w (A++(tw::(R++O))):=
 h.sub (List.Sublist.append_left (List.Sublist.cons_cons _ (List.sublist_cons_self _ _)) _)
section
variable{γ:Type}{E:TE γ}{kk:PK}{Lf:LS}{t:Nat}
theorem sP(W:pU E kk Lf t){p:γ}{s:PS}{w:World}{v:Value}{R:List ah}(C:Cn E kk t p s w v R)(kO:s.l.el<1000000)(Iu:(s.l.tk t).c=t){lb:Nat}{wi:Value}{num q n:Int}(h1:Has R (Fb lb wi num kk.J)){c:Frame}{cs:List Frame}(K:∀s' w',Cn E kk t p s' w' v R→s'.l=s.l.say t num q n→w.heap.size≤w'.heap.size→E.Ψ p (G (c.finish (.tuple #[])) cs) w'):
 E.Ψ p (G (Frame.enter prog 149 #[ptr lb,ptr (kk.T t),i6 q,i6 n] .normal) (c::cs)) w:=by
 have cB:=C.hk;refine MU (W.f p) (W.hB p) (t:=t) (aX:=kk.aX t) (wi:=wi) (num:=num) C.au (by rw[cB];exact(h1.pre _).cons) (by rw[cB];exact((C.jH.qb t W.tn).pre _).cons) C.pv.jr C.bd kO Iu fun g' aj bA w' h2 qU hy=>?_
 exact K (s.jN g' aj bA (s.l.say t num q n)) w' ⟨h2,⟨qU,C.pv.en,C.pv.eo⟩,C.qi.jN _ _ _ _ _ _ _,C.fl,C.jH,Nat.le_trans C.bd hy,C.gu.trans ⟨rfl,rfl,rfl,rfl,rfl,rfl,rfl,rfl,rfl,fun _ _=>rfl,fun _ _=>rfl,fun _ _=>⟨rfl,rfl⟩⟩,cB,C.ql⟩ rfl hy
theorem NA(W:pU E kk Lf t){p:γ}{s:PS}{w:World}{v:Value}{R:List ah}(C:Cn E kk t p s w v R){n:Nat}(hn:s.l.us t=n)(cP:n<1000000){c:Frame}{cs:List Frame}(K:∀s' w',Cn E kk t p s' w' v R→s'.l={s.l with us:=upd s.l.us t (n+1)}→w.heap.size≤w'.heap.size→E.Ψ p (G (c.finish (.tuple #[i6 n,.agg (uq (aY kk.V t n)).toArray])) cs) w'):
 E.Ψ p (G (Frame.enter prog 147 #[ptr (kk.lb kk.V.nl),i6 t] .normal) (c::cs)) w:=by
 have cB:=C.hk
 refine cB▸KM (W.f p) (W.hB p) (t:=t) (n:=n) C.au (by rw[cB];exact zA.cons (by
  have:=C.jH
  exact⟨fun j hj=>(this.lay j hj).pre _,fun j hj hk=>(this.Ip j hj hk).pre _,this.Qd.pre _,this.X9.pre _,this.Qb.pre _,fun c hc z=>by
   obtain⟨ta,h3,h4⟩:=this.Im c hc z;exact⟨ta,h3,h4.pre _⟩,fun i hi=>(this.qb i hi).pre _,this.err.pre _⟩)) (by rw[cB];exact W.tn) hn cP C.bd fun w' h2 hy=>?_
 rw[cB];refine K (s.zE t (n+1)) w' ⟨h2,⟨C.pv.jr,C.pv.en,C.pv.eo⟩,⟨C.qi.lt,C.qi.all,C.qi.DT,C.qi.ws⟩,C.fl,C.jH,Nat.le_trans C.bd hy,C.gu.trans ⟨rfl,rfl,rfl,rfl,rfl,rfl,rfl,rfl,rfl,fun _ _=>rfl,fun j hj=>?_,fun _ _=>⟨rfl,rfl⟩⟩,cB,C.ql⟩ rfl hy
 show upd s.l.us t (n+1) j=_
 simp[upd,hj]
end
def lO(V:Ev0)(j:Nat):Nat:=if j=V.nl then 146 else if(V.ly j).k=1 then 156 else 165
def jS{γ:Type}(E:TE γ)(kk:PK)(Lf:LS)(t j:Nat):Prop:=∀(m:Nat)(p:γ)(s:PS)(w:World)(v:Value)(R:List ah)(c:Frame)(cs:List Frame),Cn E kk t p s w v R→Fin kk.V Lf m (some (t,j,none)) s.l→m≤E.sj p→
 (∀m' p' s' w' v' X r b,m'<m→m'≤E.sj p'→Cn E kk t p' s' w' v' (X++R)→Fin kk.V Lf m' (some (t,j,some b)) s'.l→Pg X r b→(∀i,i<j→(s'.l.tk t).a i=(s.l.tk t).a i)→E.Ψ p' (G (ends c r) cs) w')→
 E.Ψ p (G (Frame.enter prog (lO kk.V j) #[ptr (kk.lb j),ptr (kk.T t)] .normal) (c::cs)) w
theorem Er{V:Ev0}{Lf:LS}{m t n:Nat}{L:LS}(h:Fin V Lf m (some (t,V.nl,none)) L)(hn:L.us t=n):∃m0,m=m0+1∧Fc V t L∧
 ((aY V t n).t=0→Fin V Lf m0 (some (t,V.nl,some (dg (aY V t n)))) ((({L with us:=upd L.us t (n+1)}:LS).say t (-1) 1 n).say t (-1) 2 n))∧
 ((aY V t n).t≠0→Fin V Lf m0 none (((({L with us:=upd L.us t (n+1)}:LS).say t (-1) 1 n).wait t V.nl (aY V t n).t).Nr L.wl ⟨(dg (aY V t n)).k,(dg (aY V t n)).n,⟨0,0,n⟩::(dg (aY V t n)).ch⟩)):=by
 cases m with
 |zero=>exact h.elim
 |succ m=>
  obtain⟨h1,h2,h3,h4⟩:=h;have hc:(L.tk t).c.toNat=t:=by rw[h1.tc];rfl
  refine⟨m,rfl,h1,fun hz=>?_,fun hz=>?_⟩
  ·simp only[LS.step,if_true,hc,hn,Int.toNat_natCast,hz] at h4
   exact h4
  ·simp only[LS.step,if_true,hc,hn,Int.toNat_natCast,hz,if_false] at h4
   exact h4
theorem FI{V:Ev0}(hV:vU V){t:Nat}(ht:t<V.nc)(n:Nat):(1≤(aY V t n).k∧(aY V t n).k≤4)∧(0≤(aY V t n).t∧(aY V t n).t≤1000):=by
 unfold aY
 split
 ·rename_i h;exact hV.tr t ht n h
 ·exact⟨by decide,by decide⟩
section
variable{γ:Type}{E:TE γ}{kk:PK}{Lf:LS}{t:Nat}
theorem zw(W:pU E kk Lf t){p:γ}{s:PS}{w:World}{v:Value}{R:List ah}{c:Frame}{cs:List Frame}{x:Mu}{n bx:Nat}(C:Cn E kk t p s w v (bR bx (uq x)::R))(bN:zA kk R)(kO:s.l.el<1000000)(Iu:(s.l.tk t).c=t)(hx:1≤x.k∧x.k≤4){b:Frame}(hn:TZ b 146){a:Act}(aP:a.defers=[]){B:Nat}(dH:w.heap.size=B)(S0:St (E.Ok p) B 63 [(32,i6 n),(31,ptr (kk.T t)),(30,ptr (kk.lb kk.V.nl)),(7,ptr bx),(0,ptr (kk.lb kk.V.nl))] (pM s++(jw (kk.T t) v false::(bR bx (uq x)::R++E.O p))) 0 a w)(K:∀s' w' X r,Cn E kk t p s' w' v (X++R)→s'.l=s.l.say t (-1) 2 n→Pg X r (dg x)→E.Ψ p (G (ends c r) cs) w'):
 E.Ψ p (G (b.at a (pc prog 146 43 [false] [])) (c::cs)) w:=by
 have F:=W.f p;have hB:=W.hB p;have vE:=C.bd;have af:=hn.k;have aJ:=hn.f;refine fT F af aP S0 33 149 #[ptr (kk.lb kk.V.nl),ptr (kk.T t),i6 2,i6 n] fun cf0 On=>?_
 refine sP W {C with au:=S0.au} kO Iu C.jH.Qd fun s1 w1 C1 e1 cV=>On _ _ _ C1.au fun a1 B1 S1 aG ck=>?_
 have aat:=C1.bd;have hR:Flat (R++E.O p):=C1.fl.tail;have hk:x.k=1∨x.k=2∨x.k=3∨x.k=4:=by omega
 rcases hk with hk|hk|hk|hk
 ·refine cJ F hB af aG S1 35 [8,0,0,2] [0,0,0] [] [(5,.nilIface),(4,i6 x.n)] (fun M=>M) 0 79 [false,false,false,false] [] [(x.k==4,false),(x.k==3,false),(x.k==2,false)] [] [] fun a2 w2 S2 aW dV kX A8=>?_
  refine dA F S2 af aJ aW [] (.tuple #[i6 x.n,.nilIface]) ?_;exact K s1 w2 [] (.inl (.tuple #[i6 x.n,.nilIface])) ⟨BD (pM s1) S2.au,C1.pv,C1.qi,hR,bN,by omega,C1.gu,C1.hk,C1.ql⟩ e1 (.inl (by unfold dg;simp[hk]))
 ·replace S1:=S1.get ((((bN.Qd.pre _).cons).cons).app (pM s1))
  refine cJ F hB af aG S1 19 [9,0,0,2,0,0,1,1] [2] [8] [(5,.iface 168 (ptr B1)),(4,i6 0)] (fun M=>bR (B1) [i6 1,i6 (-1),i6 x.n,.nilIface]::(M)) 1 63 [false,true] [8] [(x.k==2,true)] [] [] fun a2 w2 S2 aW dV kX A8=>?_
  refine dA F S2 af aJ aW [] (.tuple #[i6 0,.iface 168 (ptr B1)]) ?_;exact K s1 w2 [oR B1 0 [i6 1,i6 (-1),i6 x.n,.nilIface] false] (.inl (.tuple #[i6 0,.iface 168 (ptr B1)])) ⟨BC (pM s1) S2.au,C1.pv,C1.qi,hR.cons rfl,bN.cons,by omega,C1.gu,C1.hk,C1.ql⟩ e1 (.inr (.inl ⟨by unfold dg mE;simp[hk],_,rfl,by unfold dg mE;simp[hk];exact⟨B1,.nilIface,rfl,⟨rfl,0,rfl⟩,rfl⟩⟩))
 ·replace S1:=S1.get ((((bN.Qd.pre _).cons).cons).app (pM s1))
  refine cJ F hB af aG S1 25 [9,0,0,2,0,0,1,1] [0,2] [8] [(5,.iface 168 (ptr B1)),(4,i6 0)] (fun M=>bR (B1) [i6 2,i6 (-1),i6 x.n,.nilIface]::(M)) 1 69 [false,false,true] [8] [(x.k==3,true),(x.k==2,false)] [] [] fun a2 w2 S2 aW dV kX A8=>?_
  refine dA F S2 af aJ aW [] (.tuple #[i6 0,.iface 168 (ptr B1)]) ?_;exact K s1 w2 [oR B1 0 [i6 2,i6 (-1),i6 x.n,.nilIface] false] (.inl (.tuple #[i6 0,.iface 168 (ptr B1)])) ⟨BC (pM s1) S2.au,C1.pv,C1.qi,hR.cons rfl,bN.cons,by omega,C1.gu,C1.hk,C1.ql⟩ e1 (.inr (.inl ⟨by unfold dg mE;simp[hk],_,rfl,by unfold dg mE;simp[hk];exact⟨B1,.nilIface,rfl,⟨rfl,0,rfl⟩,rfl⟩⟩))
 ·refine cJ F hB af aG S1 30 [8,0,0,2] [0,0,2] [] [(60,.iface 166 (i6 x.n)),(7,ptr bx)] (fun M=>M) 0 74 [false,false,false,true] [] [(x.k==4,true),(x.k==3,false),(x.k==2,false)] [] [] fun a2 w2 S2 aW dV kX A8=>?_
  refine pnz F hn 166 (i6 x.n) (by kernel_rfl) f146 func146 aW S2 ?_;exact K s1 w2 [] (.inr (.iface 166 (i6 x.n))) ⟨BD (pM s1) S2.au,C1.pv,C1.qi,hR,bN,by omega,C1.gu,C1.hk,C1.ql⟩ e1 (.inr (.inr (by unfold dg;simp[hk])))
theorem O6(W:pU E kk Lf t):jS E kk Lf t kk.V.nl:=by
 intro m p s w v R c cs C hf AN K;rw[show lO kk.V kk.V.nl=146 by unfold lO;rw[if_pos rfl]];have F:=W.f p;have hB:=W.hB p;have vE:=C.bd;have hS:=(C.au.get (((C.jH.qb t W.tn).pre (E.O p)).cons.app (pM s)))
 obtain⟨n,EV⟩:∃n:Nat,s.l.us t=n:=⟨(s.l.us t).toNat,by
  cases m with
  |zero=>exact hf.elim
  |succ m=>have:=hf.1.us;omega⟩
 obtain⟨m0,rfl,hk,jo,gX⟩:=Er hf EV;have cB:=C.hk;refine iT f146 func146 _ rfl 63 (by kernel_rfl) hS fun bb a0 B1 hn af aJ aP S0 dH=>?_
 refine aD F hB af aP S0 23 [0,0,2,1] [] [] [(11,i6 t),(9,ptr (kk.lb kk.V.nl)),(0,ptr (kk.lb kk.V.nl)),(1,ptr (kk.T t))] (fun M=>M) 0 10 [] [] fun a1 w1 S1 aG ck cV cW=>?_
 refine fT F af aG S1 12 147 #[ptr (kk.lb kk.V.nl),i6 t] fun kP bK=>?_
 refine NA W {C with au:=S1.au.tail,bd:=by omega} EV (by have:=hk.us;omega) fun s2 w2 C2 e2 kX=>bK _ _ _ C2.au fun a2 B2 S2 aW dV=>?_
 refine aD F hB af aW S2 14 [0,0,0,3] [] [] [(19,i6 n),(18,ptr (kk.T t)),(17,ptr (kk.lb kk.V.nl)),(6,i6 n),(7,ptr B2),(0,ptr (kk.lb kk.V.nl)),(1,ptr (kk.T t))] (fun M=>bR (B2) [i6 (aY kk.V t n).k,i6 (aY kk.V t n).n,i6 (aY kk.V t n).t]::(M)) 1 25 [] [] fun a3 w3 S3 bD eu fS gD=>?_
 refine fT F af bD S3 20 149 #[ptr (kk.lb kk.V.nl),ptr (kk.T t),i6 1,i6 n] fun vO ij=>?_
 have Zw:=FI W.V W.tn n;generalize aY kk.V t n=x at*;have C3:Cn E kk t p s2 w3 v (bR B2 (uq x)::R):=⟨S3.au.perm je,C2.pv,C2.qi,C2.fl.cons rfl,C2.jH.cons,by omega,C2.gu,C2.hk,C2.ql⟩;refine sP W C3 (by rw[e2];exact hk.el) (by rw[e2];exact hk.tc) C3.jH.Qd fun s4 w4 C4 e4 Ay=>ij _ _ _ C4.au fun a4 B4 S4 fC oJ=>?_
 have aar:=C4.bd;rw[e2] at e4;have V8:(s4.l.tk t).c=t:=by rw[e4];exact hk.tc
 by_cases gT:x.t=0
 ·have mZ:=jo gT
  rw[←e4] at mZ
  have pY:Fc kk.V t (s4.l.say t (-1) 2 n):=by
   cases m0 with
   |zero=>exact mZ.elim
   |succ m0=>exact mZ.1
  have he2:s4.l.el+1<1000000:=pY.el;refine cJ F hB af fC S4 17 [8,0,2,1] [0] [] [(32,i6 n),(31,ptr (kk.T t)),(30,ptr (kk.lb kk.V.nl)),(7,ptr B2),(0,ptr (kk.lb kk.V.nl))] (fun M=>M) 0 43 [false] [] [(decide (x.t>0),false)] [] [] fun a5 w5 S5 dU jT kC rq=>?_
  refine zw W {C4 with au:=S5.au,bd:=by omega} C.jH (by omega) V8 Zw.1 hn dU jT S5 fun s6 w6 X r C6 e6 hr=>?_
  exact K m0 p s6 w6 v X r (dg x) (by omega) (by omega) C6 (by rw[e6];exact mZ) hr (fun i hi=>by rw[e6,e4];rfl)
 ·have VV:0<x.t:=by omega
  have mZ:=gX gT;have rJ:s4.l.wl=s.l.wl:=by rw[e4];rfl
  rw[←e4,←rJ] at mZ;refine cJ F hB af fC S4 13 [8,0,2,1,8,0,2,1] [2] [] [(26,i6 x.t),(24,ptr (kk.T t)),(6,i6 n),(7,ptr B2),(0,ptr (kk.lb kk.V.nl)),(1,ptr (kk.T t))] (fun M=>M) 0 39 [true] [] [(decide (x.t>0),true)] [] [] fun a5 w5 S5 dU jT kC rq=>?_
  refine OZ F af dU 27 150 #[ptr (kk.T t),i6 x.t] (by kernel_rfl) (by kernel_rfl) (by decide) S5 fun TF xg=>?_
  refine Jk W {C4 with au:=S5.au,bd:=by omega} (by rw[e4];exact hk.now) ⟨by omega,by omega⟩ _ mZ (by omega) fun p6 s6 w6 m6 hm6 ZL C6 f1 f2 f3 f4 f5=>xg.ret _ _ _ _ _ C6.au fun a6 B6 S6 kF xX=>?_
  have SF:=C6.bd;replace F:=W.f p6;replace hB:=W.hB p6;obtain⟨UC,AV⟩:=f1
  have Og:Fin kk.V Lf m6 (some (t,kk.V.nl,some (dg x))) (s6.l.say t (-1) 2 n):=by
   rcases AV with ⟨_,y,ch,hy,cL⟩|⟨k,kE,_,bE,_⟩
   ·rw[f3] at hy cL
    simp only[List.cons.injEq] at hy;rw[←hy.1,←hy.2] at cL;exact cL
   ·rw[f2] at bE;omega
  refine aD F hB af kF S6 8 [] [] [] [(32,i6 n),(31,ptr (kk.T t)),(30,ptr (kk.lb kk.V.nl)),(7,ptr B2),(0,ptr (kk.lb kk.V.nl))] (fun M=>M) 0 48 [true] [] fun a7 w7 S7 lN ur Ea Kt=>?_
  rw[show pc prog 146 48 [true] []=pc prog 146 43 [false] [] by kernel_rfl];refine zw W {C6 with au:=S7.au,bd:=by omega} C.jH UC.el UC.tc Zw.1 hn lN ur S7 fun s8 w8 X r C8 e8 hr=>?_
  exact K m6 p6 s8 w8 v X r (dg x) (by omega) (by omega) C8 (by rw[e8];exact Og) hr (fun i hi=>by
   rw[e8]
   show(s6.l.tk t).a i=_
   rw[f4,e4];rfl)
end
theorem Et{V:Ev0}{Lf:LS}{m t j:Nat}{L:LS}(hj:j<V.nl)(hk:(V.ly j).k=2)(h:Fin V Lf m (some (t,j,none)) L):∃m0,m=m0+1∧Fin V Lf m0 (some (t,j+1,none)) L:=by
 cases m with
 |zero=>exact h.elim
 |succ m=>
  obtain⟨h1,h2,h3,h4⟩:=h;have e:(j=V.nl)=False:=by simp;omega
  have e2:((2:Int)=1)=False:=by decide
  simp only[LS.step,e,if_false,hk,e2] at h4;exact⟨m,rfl,h4⟩
theorem zh{V:Ev0}{Lf:LS}{m t j:Nat}{L:LS}{b:Bk}(hk:(V.ly j).k=2)(h:Fin V Lf m (some (t,j+1,some b)) L):∃m0,m=m0+1∧Fc V t L∧Ud b∧(b.k=3→Fin V Lf m0 (some (t,j,some (mE 6 j b.n))) (L.say t j 5 b.n))∧(b.k≠3→Fin V Lf m0 (some (t,j,some b)) L):=by
 cases m with
 |zero=>exact h.elim
 |succ m=>
  obtain⟨h1,h2,h3,h4⟩:=h;have e:(j+1=0)=False:=by simp
  have e2:((2:Int)=1)=False:=by decide
  refine⟨m,rfl,h1,(h3 b rfl).1,fun hb=>?_,fun hb=>?_⟩
  ·simp only[LS.step,e,if_false,Nat.add_sub_cancel,hk,e2,hb,if_true] at h4
   exact h4
  ·simp only[LS.step,e,if_false,Nat.add_sub_cancel,hk,e2,hb] at h4
   exact h4
theorem Gs{k:PK}(hV:vU k.V){j:Nat}(hj:j<k.V.nl):∃ty,BT k (j+1)=.iface ty (ptr (k.lb (j+1)))∧((ty=138∧lO k.V (j+1)=146)∨(ty=141∧lO k.V (j+1)=156)∨(ty=144∧lO k.V (j+1)=165)):=by
 unfold BT lO
 by_cases e:j+1=k.V.nl
 ·rw[if_pos e,if_pos e];exact⟨138,rfl,.inl ⟨rfl,rfl⟩⟩
 ·rw[if_neg e,if_neg e]
  by_cases e1:(k.V.ly (j+1)).k=1
  ·rw[if_pos e1,if_pos e1];exact⟨141,rfl,.inr (.inl ⟨rfl,rfl⟩)⟩
  ·rw[if_neg e1,if_neg e1];exact⟨144,rfl,.inr (.inr ⟨rfl,rfl⟩)⟩
section
variable{γ:Type}{E:TE γ}{kk:PK}{Lf:LS}{t:Nat}
theorem Kr(W:pU E kk Lf t){j:Nat}(hj:j<kk.V.nl)(hk:(kk.V.ly j).k=2)(IH:jS E kk Lf t (j+1)):jS E kk Lf t j:=by
 intro m p s w v R c cs C hf AN K;rw[show lO kk.V j=165 by unfold lO;rw[if_neg (by omega),if_neg (by rw[hk];decide)]];have F:=W.f p;have hB:=W.hB p;have vE:=C.bd;have hS:=C.au;obtain⟨m0,rfl,jo⟩:=Et hj hk hf;obtain⟨ty,qV,hg⟩:=Gs W.V hj;have pI:=C.jH.lay j hj;rw[qV] at pI;unfold jS at IH;generalize lO kk.V (j+1)=gf at*;refine iT f165 func165 _ rfl 16 (by kernel_rfl) hS fun bb a0 B1 hn af aJ aP S0 dH=>?_
 refine aD F hB af aP S0 10 [] [] [] [(6,.func (Fn.func 166) #[] #[ptr B1,ptr (B1+1),ptr (B1+2),ptr (B1+3)]),(5,ptr (B1+3)),(4,ptr (B1+2)),(3,ptr (B1+1)),(2,ptr B1)] (fun M=>bR (B1+3) [.nilIface]::(bR (B1+2) [i6 0]::(bR (B1+1) [ptr (kk.T t)]::(bR (B1) [ptr (kk.lb j)]::(M))))) 4 10 [] [] fun a1 w1 S1 aG ck cV cW=>?_
 refine dfz F hn aG 166 [ptr B1,ptr (B1+1),ptr (B1+2),ptr (B1+3)] (by kernel_rfl) (by kernel_rfl) (by kernel_rfl) S1 fun a2 S2 aW=>?_
 refine aD F hB af aW S2 2 [] [] [] [(5,ptr (B1+3)),(4,ptr (B1+2)),(3,ptr (B1+1)),(2,ptr B1)] (fun M=>M) 4 13 [] [] fun a3 w3 S3 bD eu fS gD=>?_
 have hR:Sat (E.Ok p) w3 (pM s++(jw (kk.T t) v false::(([bR (B1+3) [.nilIface],bR (B1+2) [i6 0],oR (B1+1) 0 [ptr (kk.T t)] false,oR B1 0 [ptr (kk.lb j)] false]++R)++E.O p))):=
  (Sat.Ku [bR (B1+3) [.nilIface],bR (B1+2) [i6 0],oR (B1+1) 0 [ptr (kk.T t)] false] (Sat.Ku [bR (B1+3) [.nilIface],bR (B1+2) [i6 0]] S3.au)).perm (D4 (A:=pM s) (X:=[bR (B1+3) [.nilIface],bR (B1+2) [i6 0],oR (B1+1) 0 [ptr (kk.T t)] false,oR B1 0 [ptr (kk.lb j)] false]))
 have C3:Cn E kk t p s w3 v ([bR (B1+3) [.nilIface],bR (B1+2) [i6 0],oR (B1+1) 0 [ptr (kk.T t)] false,oR B1 0 [ptr (kk.lb j)] false]++R):=⟨hR,C.pv,C.qi,((((C.fl.cons rfl).cons rfl).cons rfl).cons rfl),C.jH.app _,by omega,C.gu,C.hk,C.ql⟩;replace S3:St (E.Ok p) B1 16 _ _ 4 a3 w3:=⟨S3.env,hR,S3.sz⟩
 have ux:∀p' s' w' v' X,Cn E kk t p' s' w' v' (X++([bR (B1+3) [.nilIface],bR (B1+2) [i6 0],oR (B1+1) 0 [ptr (kk.T t)] false,oR B1 0 [ptr (kk.lb j)] false]++R))→Sat (E.Ok p') w' [oR B1 0 [ptr (kk.lb j)] false,oR (B1+1) 0 [ptr (kk.T t)] false,Fb (kk.lb j) (.iface ty (ptr (kk.lb (j+1)))) j kk.J]:=by
  intro p' s' w' v' X C';refine C'.au.QA fun r hr=>?_
  simp only[List.mem_cons,List.not_mem_nil,or_false] at hr;rcases hr with rfl|rfl|rfl
  ·exact Has.in ⟨rfl,3,rfl⟩
  ·exact Has.in ⟨rfl,2,rfl⟩
  ·exact Has.in (pI.app _)
 refine bkC W.f aL W.hB af 9 6 [oR B1 0 [ptr (kk.lb j)] false,oR (B1+1) 0 [ptr (kk.T t)] false,Fb (kk.lb j) (.iface ty (ptr (kk.lb (j+1)))) j kk.J] [(0,(0,0),true),(2,(0,0),true),(1,(0,0),true)] [(11,.iface ty (ptr (kk.lb (j+1)))),(12,ptr (kk.T t))] 13 gf #[ptr (kk.lb (j+1)),ptr (kk.T t)] (by kernel_rfl) (by kernel_rfl) (by kernel_rfl) (by kernel_rfl) (by rcases hg with ⟨rfl,rfl⟩|⟨rfl,rfl⟩|⟨rfl,rfl⟩<;>kernel_rfl) S3 (ux p s w3 v [] C3) (by omega) fun cf w4 Ou oJ Xs=>?_
 refine IH m0 p s w4 v _ cf (c::cs) {C3 with au:=Ou,bd:=by omega} jo (by omega) fun m' p' s' w' v' X r b uR dr C' nP hr ha=>?_
 obtain⟨m1,rfl,GX,jM,h3,qu⟩:=zh hk nP;have xh:=C'.bd;replace F:=W.f p';replace hB:=W.hB p';have hM:=C'.au.perm (jZ (A:=pM s'));have uP:∀w5,Sat (E.Ok p') w5 (pM s'++(jw (kk.T t) v' false::((X++R)++E.O p')))→w'.heap.size≤w5.heap.size→Cn E kk t p' s' w5 v' (X++R):=fun w5 h5 kC=>⟨h5,C'.pv,C'.qi,C'.fl.Ut,C.jH.app X,by omega,C'.gu,C'.hk,C'.ql⟩
 rcases hr with ⟨hb,rfl⟩|⟨hb,e,rfl,he⟩|⟨hb,rfl⟩
 ·refine Xs.ret p' _ w' [] [(14,i6 b.n),(15,.nilIface),(4,ptr (B1+2)),(5,ptr (B1+3))] _ xh (ux p' s' w' v' X C') hM (by kernel_rfl) (by kernel_rfl) fun a5 w5 B5 S5 dU jT kC=>?_
  rw[bD] at dU;refine aD F hB af dU S5 3 [1,0,0,1,0,0,0,1] [] [] [(4,ptr (B1+2)),(5,ptr (B1+3))] (fun M=>gH 1 (0,0) (i6 b.n) (M)) 0 17 [] [9] fun a6 w6 S6 kF xX GO Mk=>?_
  refine Um F (by kernel_rfl) kF f166 func166 _ rfl (by kernel_rfl) 25 (by kernel_rfl) S6 fun a7 S7 lN=>?_
  refine EL F aL hB (by omega) lN 2 [] [] [] [(0,ptr B1),(1,ptr (B1+1)),(2,ptr (B1+2)),(3,ptr (B1+3))] (fun M=>M) 0 2 [] [] [] [] [] (by kernel_rfl) (by kernel_rfl) gl gl gl S7 fun a8 w8 S8 qZ ET JW P8=>?_
  refine Un F 6 (by kernel_rfl) (by kernel_rfl) (by decide) rfl S8 fun a9 S9 oC=>?_
  rw[qZ] at oC;refine EL F aL hB (by omega) oC 9 [] [(false,true)] [] [] (fun M=>M) 0 12 [false] [] [] [] [] (by kernel_rfl) (by kernel_rfl) gl gl gl S9 fun IJ rC rA kG wP yQ HI=>?_
  refine U7 F (by kernel_rfl) kG f166 func166 (by kernel_rfl) ?_;refine Pu F (a:=⟨a6.tmps,[]⟩) (N:=16) (E:=[(4,ptr (B1+2)),(5,ptr (B1+3))]) ⟨S6.env.sz,S6.env.val⟩ rA.au af aJ rfl [(1,(0,0),true),(0,(0,0),true)] (.tuple #[i6 b.n,.nilIface]) (by kernel_rfl) (by kernel_rfl) ?_;exact K m1 p' s' rC v' X _ b (by omega) (by omega) (uP rC rA.au.tail.tail.tail.tail (by omega)) (qu (by omega)) (.inl ⟨hb,rfl⟩) fun i hi=>ha i (by omega)
 ·obtain⟨q,rfl⟩:∃q,e=.iface 168 (ptr q):=by
   rcases jM.2 with ⟨z,_⟩|⟨_,_,z⟩|⟨z,_⟩
   ·omega
   ·cases eC:b.ch with
    |nil=>exact absurd eC z
    |cons y ch=>rw[eC] at he;obtain⟨q,_,h,_⟩:=he;exact⟨q,h⟩
   ·omega
  refine Xs.ret p' _ w' [] [(14,i6 0),(15,.iface 168 (ptr q)),(4,ptr (B1+2)),(5,ptr (B1+3))] _ xh (ux p' s' w' v' X C') hM (by kernel_rfl) (by kernel_rfl) fun a5 w5 B5 S5 dU jT kC=>?_
  rw[bD] at dU;refine aD F hB af dU S5 3 [1,0,0,1,0,0,0,1] [] [] [(4,ptr (B1+2)),(5,ptr (B1+3))] (fun M=>gH 0 (0,0) (.iface 168 (ptr q)) (M)) 0 17 [] [9] fun a6 w6 S6 kF xX GO Mk=>?_
  refine Um F (by kernel_rfl) kF f166 func166 _ rfl (by kernel_rfl) 25 (by kernel_rfl) S6 fun a7 S7 lN=>?_
  refine EL F aL hB (by omega) lN 2 [] [] [] [(0,ptr B1),(1,ptr (B1+1)),(2,ptr (B1+2)),(3,ptr (B1+3))] (fun M=>M) 0 2 [] [] [] [] [] (by kernel_rfl) (by kernel_rfl) gl gl gl S7 fun a8 w8 S8 qZ ET JW P8=>?_
  refine Un F 6 (by kernel_rfl) (by kernel_rfl) (by decide) rfl S8 fun a9 S9 oC=>?_
  rw[qZ] at oC;refine EL F aL hB (by omega) oC 9 [] [(false,true)] [] [] (fun M=>M) 0 12 [false] [] [] [] [] (by kernel_rfl) (by kernel_rfl) gl gl gl S9 fun IJ rC rA kG wP yQ HI=>?_
  refine U7 F (by kernel_rfl) kG f166 func166 (by kernel_rfl) ?_;refine Pu F (a:=⟨a6.tmps,[]⟩) (N:=16) (E:=[(4,ptr (B1+2)),(5,ptr (B1+3))]) ⟨S6.env.sz,S6.env.val⟩ rA.au af aJ rfl [(1,(0,0),true),(0,(0,0),true)] (.tuple #[i6 0,.iface 168 (ptr q)]) (by kernel_rfl) (by kernel_rfl) ?_;exact K m1 p' s' rC v' X _ b (by omega) (by omega) (uP rC rA.au.tail.tail.tail.tail (by omega)) (qu (by omega)) (.inr (.inl ⟨hb,_,rfl,he⟩)) fun i hi=>ha i (by omega)
 ·obtain⟨a5,t5,rfl,dU,IE⟩:=Xs.U3
  rw[bD] at dU
  show E.Ψ p' (G ((bb.at a5 t5).raise (nW (.iface 166 (i6 b.n)))) (c::cs)) w'
  rw[raise_at hn.m];refine Zg F dU f166 func166 _ rfl (by kernel_rfl) 25 (by kernel_rfl) hM fun a7 B7 S7 lN ur=>?_
  refine EL F aL hB (by omega) lN 2 [] [] [] [(0,ptr B1),(1,ptr (B1+1)),(2,ptr (B1+2)),(3,ptr (B1+3))] (fun M=>M) 0 2 [] [] [] [] [] (by kernel_rfl) (by kernel_rfl) gl gl gl S7 fun a8 w8 S8 qZ ET JW P8=>?_
  refine Zi F (v:=.iface 166 (i6 b.n)) 6 (by kernel_rfl) (by kernel_rfl) (by decide) rfl S8 fun a9 S9 oC=>?_
  rw[qZ] at oC;refine EL F aL hB (by omega) oC 36 [(3,(0,0),true),(2,(0,0),true)] [(true,true)] [5] [(15,i6 b.n),(14,ptr (kk.T t)),(13,ptr (kk.lb j)),(5,i6 b.n),(0,ptr B1),(2,ptr (B1+2)),(3,ptr (B1+3))] (fun M=>M) 0 19 [true] [5] [] [] [] (by kernel_rfl) (by kernel_rfl) gl gl gl S9 fun IJ rC rA kG wP yQ HI=>?_
  refine cld F kG 16 149 #[ptr (kk.lb j),ptr (kk.T t),i6 5,i6 b.n] (by kernel_rfl) (by kernel_rfl) (by decide) rA fun X5 Hr=>?_
  have C10:Cn E kk t p' s' rC v' (X++([bR (B1+3) [.nilIface],bR (B1+2) [i6 0],oR (B1+1) 0 [ptr (kk.T t)] false,oR B1 0 [ptr (kk.lb j)] false]++R)):={C' with au:=rA.au.perm (jZ (A:=pM s')).symm,bd:=by omega};refine sP W C10 GX.el GX.tc (wi:=.iface ty (ptr (kk.lb (j+1)))) (num:=j) ((pI.app _).app X) fun QB Qp Pk e11 NL=>Hr _ _ _ ((Pk.au.perm (jZ (A:=pM QB))).get (((((pI.app X).pre _).cons).app (pM QB)).app _)) fun TN Pm EP wZ JV=>?_
  have Z1:=Pk.bd;refine EL F aL hB (by omega) wZ 46 [(4,(0,0),true),(0,(0,1),true),(3,(0,0),true),(2,(0,0),true)] [] [] [] (fun M=>bR (Pm) [i6 6,i6 j,i6 b.n,.nilIface]::(gH 1 (0,0) (.iface 168 (ptr Pm)) (M))) 1 33 [true] [5] [] [] [] (by kernel_rfl) (by kernel_rfl) gl gl gl EP fun Yf K7 KX AY NJ NK XO=>?_
  refine HQ F (b:=bb) (a':=⟨a5.tmps,[]⟩) (todo':=t5) (v:=.iface 166 (i6 b.n)) (by kernel_rfl) AY f166 func166 (by kernel_rfl) ?_;have hA:aO [(5,ptr (B1+3)),(4,ptr (B1+2))] 16 (⟨a5.tmps,[]⟩:Act):=⟨IE.sz,fun d u hl=>IE.val d u (fY [(5,ptr (B1+3)),(4,ptr (B1+2))] _ (by kernel_rfl) d u hl)⟩;refine Pu F hA KX.au af aJ rfl [(3,(0,0),true),(2,(0,0),true)] (.tuple #[i6 0,.iface 168 (ptr Pm)]) (by kernel_rfl) (by kernel_rfl) ?_;have Xr:Sat (E.Ok p') K7 (bR Pm [i6 6,i6 j,i6 b.n,.nilIface]::(pM QB++(jw (kk.T t) v' false::(R++E.O p')))):=KX.au.sub (.cons_cons _ (.cons _ (.cons _ (.cons _ (.cons _ (.cons _ (List.Sublist.append_left (.cons_cons _ (List.Sublist.append_right (List.sublist_append_right X R) _)) _)))))))
  have zI:Flat (R++E.O p'):=fun i r hi=>by
   have:=cN.1 C'.fl.Ut r;refine this ?_;have hm:r∈R++E.O p':=by rw[fW] at hi;exact List.mem_of_getElem? hi
   simp only[List.mem_append] at hm ⊢;exact hm.imp_left .inr
  have mZ:=h3 hb;rw[←e11] at mZ;exact K m1 p' QB K7 v' [oR Pm 0 [i6 6,i6 j,i6 b.n,.nilIface] false] _ (mE 6 j b.n) (by omega) (by omega) ⟨Xr.fix.perm (je (A:=pM QB)),Pk.pv,Pk.qi,zI.cons rfl,C.jH.cons,by omega,Pk.gu,Pk.hk,Pk.ql⟩ mZ (.inr (.inl ⟨rfl,_,rfl,Pm,.nilIface,rfl,⟨rfl,0,rfl⟩,rfl⟩)) fun i hi=>by rw[e11];exact ha i (by omega)
end
end Go.Proofs.YtobagnjnbmgidaaGreatDoor
