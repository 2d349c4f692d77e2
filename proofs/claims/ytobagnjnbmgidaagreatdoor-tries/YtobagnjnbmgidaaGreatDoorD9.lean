import Derived.Test.YtobagnjnbmgidaaGreatDoorD5
set_option linter.all false
set_option maxHeartbeats 8000000
set_option maxRecDepth 100000
namespace Go.Proofs.YtobagnjnbmgidaaGreatDoor
section
open Go.Conc Go.RowKit Tryz
theorem Ap(ag:Nat→rB):∀n,(cv ag n=-1∧∀j,j<n→(ag j).o=true)∨∃k:Nat,k<n∧cv ag n=k∧(ag k).o=false∧∀j,j<n→(ag j).o=false→j=k∨gR ag k j
 |0=>.inl ⟨rfl,fun j hj=>by omega⟩
 |n+1=>by
  unfold cv;rcases Ap ag n with ⟨h1,h2⟩|⟨k,h1,h2,h3,h4⟩
  ·rw[h1]
   by_cases ho:(ag n).o=false
   ·rw[if_pos ⟨ho,.inl (by omega)⟩]
    refine .inr ⟨n,by omega,rfl,ho,fun j hj PL=>.inl ?_⟩
    by_cases e:j=n
    ·exact e
    ·have:=h2 j (by omega);rw[PL] at this;cases this
   ·rw[if_neg (fun z=>ho z.1)]
    refine .inl ⟨rfl,fun j hj=>?_⟩
    by_cases e:j=n
    ·subst e;simpa using ho
    ·exact h2 j (by omega)
  ·rw[h2]
   by_cases hc:(ag n).o=false∧((k:Int)<0∨(ag n).a<(ag (k:Int).toNat).a)
   ·rw[if_pos hc]
    have aT:(ag n).a<(ag k).a:=by
     rcases hc.2 with z|z
     ·omega
     ·simpa using z
    refine .inr ⟨n,by omega,rfl,hc.1,fun j hj PL=>?_⟩
    by_cases e:j=n
    ·exact .inl e
    ·refine .inr (.inl ?_)
     rcases h4 j (by omega) PL with z|z|z
     ·rw[z];exact aT
     ·exact Int.lt_trans aT z
     ·rw[←z.1];exact aT
   ·rw[if_neg hc]
    refine .inr ⟨k,by omega,rfl,h3,fun j hj PL=>?_⟩
    by_cases e:j=n
    ·subst e
     right
     have:¬((ag j).a<(ag k).a):=fun z=>hc ⟨PL,.inr (by simpa using z)⟩
     unfold gR;rcases Int.lt_or_eq_of_le (Int.not_lt.1 this) with z|z
     ·exact .inl z
     ·exact .inr ⟨z,by omega⟩
    ·exact h4 j (by omega) PL
theorem oG{ag:Nat→rB}{i j:Nat}(h:gR ag i j)(h':gR ag j i):False:=by
 unfold gR at h h';omega
theorem Nz{s:PS}(Q:QI s){i:Nat}{q':List Nat}(hq:s.q=i::q'):cv s.l.ag s.l.al=i:=by
 have hi:=Q.lt i (by rw[hq];simp);rcases Ap s.l.ag s.l.al with ⟨h1,h2⟩|⟨k,h1,h2,h3,h4⟩
 ·have:=h2 i hi.1;rw[hi.2] at this;cases this
 ·have hk:=Q.all k h1 h3
  rw[hq] at hk;rcases List.mem_cons.1 hk with rfl|hk
  ·exact h2
  ·have hs:=Q.DT
   rw[hq] at hs;have h5:=(List.pairwise_cons.1 hs).1 k hk;rcases h4 i hi.1 hi.2 with z|z
   ·rw[h2,z]
   ·exact(oG h5 z).elim
theorem Gv{s:PS}(Q:QI s)(hq:s.q=[]):cv s.l.ag s.l.al=-1:=by
 rcases Ap s.l.ag s.l.al with ⟨h1,h2⟩|⟨k,h1,h2,h3,h4⟩
 ·exact h1
 ·have hk:=Q.all k h1 h3
  rw[hq] at hk;cases hk
abbrev PS.dL(s:PS)(i:Nat)(q':List Nat)(en:Value)(eb:qP):PS:={s with en:=en,eb:=eb,q:=q',l:=s.l.pop i}
theorem jd(s:PS)(i j:Nat)(q':List Nat)(en:Value)(eb:qP):((s.dL i q' en eb).l.ag j).a=(s.l.ag j).a∧((s.dL i q' en eb).l.ag j).t=(s.l.ag j).t∧((s.dL i q' en eb).l.ag j).w=(s.l.ag j).w∧((s.dL i q' en eb).l.ag j).c=(s.l.ag j).c∧(j≠i→((s.dL i q' en eb).l.ag j).o=(s.l.ag j).o):=by
 show(upd s.l.ag i _ j).a=_∧(upd s.l.ag i _ j).t=_∧(upd s.l.ag i _ j).w=_∧(upd s.l.ag i _ j).c=_∧(j≠i→(upd s.l.ag i _ j).o=_)
 unfold upd
 by_cases e:j=i
 ·subst e;simp
 ·simp[e]
theorem QI.dL{s:PS}(Q:QI s){i:Nat}{q':List Nat}(hq:s.q=i::q')(en:Value)(eb:qP):QI (s.dL i q' en eb)∧cy s=jz s i::cy (s.dL i q' en eb):=by
 have hs:=Q.DT;rw[hq] at hs;obtain⟨p1,p2⟩:=List.pairwise_cons.1 hs;have LR:∀j∈q',j≠i:=fun j hj e=>by subst e;exact oG (p1 j hj) (p1 j hj)
 have gC:∀j∈q',j∈s.q:=fun j hj=>by rw[hq];exact List.mem_cons_of_mem _ hj
 refine⟨⟨fun j hj=>?_,fun j h1 h2=>?_,?_,fun j hj=>?_⟩,?_⟩
 ·have:=Q.lt j (gC j hj)
  exact⟨this.1,by rw[(jd s i j q' en eb).2.2.2.2 (LR j hj)];exact this.2⟩
 ·have aN:j≠i:=fun e=>by
   subst e;have:((s.dL j q' en eb).l.ag j).o=true:=by show(upd s.l.ag j _ j).o=true;unfold upd;rw[if_pos rfl]
   rw[this] at h2;cases h2
  rw[(jd s i j q' en eb).2.2.2.2 aN] at h2;have:=Q.all j h1 h2;rw[hq] at this;rcases List.mem_cons.1 this with z|z
  ·exact absurd z aN
  ·exact z
 ·refine p2.imp fun{a b} h=>?_
  unfold gR at h ⊢;rw[(jd s i a q' en eb).1,(jd s i b q' en eb).1];exact h
 ·rw[(jd s i j q' en eb).2.2.2.1,(jd s i j q' en eb).2.2.1];exact Q.ws j (gC j hj)
 ·unfold cy
  rw[hq,List.map_cons]
  congr 1
  refine List.map_congr_left fun j hj=>?_
  unfold jz;rw[(jd s i j q' en eb).1,(jd s i j q' en eb).2.1,(jd s i j q' en eb).2.2.1,(jd s i j q' en eb).2.2.2.1]
section
variable{Ok:Addr→Bool→Prop}{Ψ:Goroutine→World→Prop}
theorem Lt(F:aC prog true (DX Ok) Ψ){s:PS}{C:List ah}{w:World}{i:Nat}{q':List Nat}{cs:List Frame}{g:Goroutine}(hB:HB w.heap.size Ok)(hS:Sat Ok w (pM s++C))(hP:PV Ok s (cy s))(hC:Flat C)(Q:QI s)(hq:s.q=i::q')(hg:xM s.k.A cs g){f:FuncId}{fn:Func}{fst cp:Array Value}(he:(jz s i).2=.func (.func f) fst cp)(hf:prog.funcs[f]? =some fn)(gA:(fn.name== "runtime.NumGoroutine")=false)(hb:fn.body.isNone=false)(K:∀fr w1 kK lF,xP s.k.A cs fr→Kp [] w w1 [⟨s.k.A,0,none⟩,⟨s.k.A,1,none⟩]→Sat Ok w1 (pM (s.dL i q' kK lF)++C)→PV Ok (s.dL i q' kK lF) (cy (s.dL i q' kK lF))→QI (s.dL i q' kK lF)→Ψ (G (Frame.enter prog f (fst++cp) .normal) (fr::cs)) w1):Ψ g w:=by
 have fu:=(Q.dL hq s.en s.eb).2;have uU:=hP.en;have h0:=hS.val 0 _ rfl (0,0) ⟨Nat.zero_lt_one,(by decide:0<2)⟩;have h1:=hS.val 0 _ rfl (0,1) ⟨Nat.zero_lt_one,(by decide:1<2)⟩;have o0:=hS.ok 0 _ rfl (0,0) ⟨Nat.zero_lt_one,(by decide:0<2)⟩;have o1:=hS.ok 0 _ rfl (0,1) ⟨Nat.zero_lt_one,(by decide:1<2)⟩;have hA:s.k.A<w.heap.size:=aq h0
 have qv:s.eb.c=1:=by
  rcases uU.2 with ⟨_,z,_⟩|⟨_,_,_,z,_⟩
  ·rw[fu] at z;cases z
  ·exact z
 obtain⟨Fa,WA⟩:=hP.eo qv;have hE:fU (s.k.A+1) w s.en (cy s):=xD hS (i:=1) rfl uU (fun _=>Fa)
 have kD:∀b,b∈bV s.en→b=s.eb.E:=fun b hb=>by
  rcases uU.2 with ⟨_,z,_⟩|⟨o,c,z1,_⟩
  ·rw[fu] at z;cases z
  ·rw[z1,br] at hb;simp[Value.ownBlock] at hb;exact hb.symm
 rw[fu] at hE
 have hei:jz s i=((s.l.ag i).a,.func (.func f) fst cp):=by
  rw[←he];rfl
 rw[hei] at hE;refine QR F (s.k.A+1) s.k.A cs (s.l.ag i).a f fn fst cp _ s.en _ g w hg hf gA hb hE (Nat.lt_succ_self _) hA h0 (o0.2 rfl).2 h1 (o1.2 rfl).2 o1.1 (o1.2 rfl).1 (o0.2 rfl).1 (fun a ha=>WA a false (kD _ ha)) hB fun fr w1 kK Mf k1 b0 z0 b1 z1 Cw vw=>?_
 have GY:=mS (b:=s.k.A) hS hP hC (i0:=0) (j0:=(0,0)) rfl (by decide) (by decide) ⟨Nat.zero_lt_one,(by decide:0<2)⟩ rfl;have xm:Sat Ok w (bR s.k.A [i6 s.l.now,s.en]::((pM s).tail++C)):=hS;have Xd:=(List.pairwise_cons.1 (sat_iff.1 xm).2).1
 have hT:Sat Ok w1 ((pM s).tail++C):=by
  refine(xm.tail).kp k1 (fun r hr j hj z=>?_) (fun r hr g e n hg x hx=>?_)
  ·simp only[List.mem_cons,List.not_mem_nil,or_false] at z
   rcases z with z|z
   ·exact Xd r hr (.inl rfl) (0,0) j ⟨Nat.zero_lt_one,(by decide:0<2)⟩ hj z.symm
   ·exact Xd r hr (.inl rfl) (0,1) j ⟨Nat.zero_lt_one,(by decide:1<2)⟩ hj z.symm
  ·have:=GY r (List.mem_cons_of_mem _ hr) g e n hg
   simp only[List.mem_cons,List.not_mem_nil,or_false] at hx;rcases hx with rfl|rfl<;>exact this
 have wW:∀lF:qP,(lF=s.eb∨lF={s.eb with c:=0})→Sat Ok w1 (pM (s.dL i q' kK lF)++C):=fun lF ZX=>by
  have SM:Sat Ok w1 (eR lF::((pM s).tail.tail++C)):=by
   rcases ZX with rfl|rfl
   ·exact hT
   ·have Kl:Sat Ok w1 (eR s.eb::((pM s).tail.tail++C)):=hT
    rw[sat_iff] at Kl ⊢;refine⟨fun r hr=>?_,List.pairwise_cons.2 ⟨fun r hr _ j j' hj _=>absurd hj.1 (Nat.not_lt_zero _),(List.pairwise_cons.1 Kl.2).2⟩⟩;rcases List.mem_cons.1 hr with rfl|hr
    ·exact⟨fun j hj=>absurd hj.1 (Nat.not_lt_zero _),fun j hj=>absurd hj.1 (Nat.not_lt_zero _),fun _ j _ hj=>absurd hj.1 (Nat.not_lt_zero _),fun g e n z=>by cases z⟩
    ·exact Kl.1 r (List.mem_cons_of_mem _ hr)
  show Sat Ok w1 (bR s.k.A [i6 (s.l.ag i).a,kK]::(eR lF::((pM s).tail.tail++C)))
  rw[sat_iff] at SM ⊢
  have nN:∀j:Ix,(bR s.k.A [i6 (s.l.ag i).a,kK]).has j→j=(0,0)∨j=(0,1):=fun j hj=>by
   obtain⟨z1,z2⟩:=hj;have z1':j.1<1:=z1;have z2':j.2<2:=z2;obtain⟨j1,j2⟩:=j
   simp only at z1' z2'
   have:j1=0:=by omega
   subst this;rcases(by omega:j2=0∨j2=1) with rfl|rfl
   ·exact .inl rfl
   ·exact .inr rfl
  refine⟨fun r hr=>?_,List.pairwise_cons.2 ⟨fun r hr _ j j' hj bP e=>?_,SM.2⟩⟩
  ·rcases List.mem_cons.1 hr with rfl|hr
   ·refine⟨fun j hj=>?_,fun j hj=>?_,fun _ j j' hj bP e=>?_,fun g e n z=>by cases z⟩
    ·rcases nN j hj with rfl|rfl
     ·exact b0
     ·exact b1
    ·rcases nN j hj with rfl|rfl
     ·exact⟨o0.1,fun _=>⟨(o0.2 rfl).1,z0⟩⟩
     ·exact⟨o1.1,fun _=>⟨(o1.2 rfl).1,z1⟩⟩
    ·rcases nN j hj with rfl|rfl<;>rcases nN j' bP with rfl|rfl<;>simp at e ⊢
   ·exact SM.1 r hr
  ·have gC:∃r',r'∈(pM s).tail++C∧r'.has j'∧r'.ad j'=r.ad j':=by
    rcases List.mem_cons.1 hr with rfl|hr
    ·rcases ZX with rfl|rfl
     ·exact⟨_,List.mem_append_left _ (List.mem_cons_self ..),bP,rfl⟩
     ·exact absurd bP.1 (Nat.not_lt_zero _)
    ·exact⟨r,by
      rcases List.mem_append.1 hr with z|z
      ·exact List.mem_append_left _ (List.mem_of_mem_tail z)
      ·exact List.mem_append_right _ z,bP,rfl⟩
   obtain⟨r',iq,qA,U1⟩:=gC;refine Xd r' iq (.inl rfl) j j' ?_ qA (by rw[U1];exact e);rcases nN j hj with rfl|rfl
   ·exact⟨Nat.zero_lt_one,(by decide:0<2)⟩
   ·exact⟨Nat.zero_lt_one,(by decide:1<2)⟩
 rcases Cw with ⟨rM,⟨e1,e2⟩|⟨E',off,cap,cur,e1,e2,e3,e4,e5,e6⟩⟩
 ·exact K fr w1 kK {s.eb with c:=0} Mf k1 (wW _ (.inr rfl)) ⟨hP.jr,⟨rM,.inl ⟨e1,e2,rfl⟩⟩,fun z=>by cases z⟩ (Q.dL hq _ _).1
 ·have Me:E'=s.eb.E:=kD _ (vw _ (by rw[e1,br];simp[Value.ownBlock]))
  subst Me;obtain⟨HY,c1,c2,c3⟩:=tY (wW s.eb (.inl rfl)) (i:=1) rfl qv;rw[e4] at c1;cases c1
  have sw:0<s.eb.n:=by
   rcases uU.2 with ⟨_,_,z⟩|⟨_,_,_,_,_,_,z,_⟩
   ·omega
   ·exact z
  refine K fr w1 kK s.eb Mf k1 (wW _ (.inl rfl)) ⟨hP.jr,⟨rM,.inr ⟨off,cap,e1,qv,e2,by omega,sw,fun j u hu=>?_⟩⟩,hP.eo⟩ (Q.dL hq _ _).1;have h9:=e6 j u hu;have aT:off+j<s.eb.n:=by rw[←c2];exact(Array.getElem?_eq_some_iff.1 h9).1
  rw[c3 _ aT] at h9;exact Option.some.inj h9
end
end
section
open Go.Conc Go.RowKit
open Go.ConcN (sumTo sumTo_upd)
section
variable{R:RN}{Post:Value→World→Prop}{σ σ':Gd}{s:PS}{B B' t κ bg Λ i:Nat}{q':List Nat}
theorem CQ(c0:Co R σ s B)(hq:s.q=i::q')(ht:(s.l.ag i).t=(t:Int))(tn:t<R.n)(eY:∃a b,u5 (σ.tk t)=a∧xS (σ.tk t)=b∧a+b=1){en:Value}{eb:qP}{L2:LS}(oP:L2.ag=(s.l.pop i).ag)(fy:L2.al=s.l.al)(rJ:L2.wl=s.l.wl)(hw:∀k,(L2.wt k).l=(s.l.wt k).l∧(L2.wt k).b=(s.l.wt k).b)(V6:∀j,j≠t→(L2.tk j).a=(s.l.tk j).a)(EV:L2.us=s.l.us)(RO:L2.ou=s.l.ou)(NP:σ'.tk=cu σ.tk t lM)(So:σ'.dn=σ.dn)(bN:∀p∈σ.st,p∈σ'.st)(uO:∀p∈σ'.st,p.1.off≠5∧p.1.off≠6∧p.1.block<B')(xZ:σ.ng≤σ'.ng)(hB:B≤B')(hI:∀j q1,j<R.n→j≠t→σ.tk j=iP q1→σ'.Inb q1.κ=σ.Inb q1.κ)(WY:∀g e,σ'.Inb g=some e→g≠0→σ.Inb g=some e∧∀q1,σ.tk t=iP q1→q1.κ≠g)(Wd:∀g x,(σ'.Inb g).isSome→σ'.St g x→xL σ'.st x)(gS:σ'.nb+σ'.fr R≤9):Co R σ' {s.dL i q' en eb with l:=L2} B':=by
 have ym:∀j,j≠t→σ'.tk j=σ.tk j:=fun j hj=>by rw[NP];exact cq _ _ hj
 have Vs:σ'.tk t=lM:=by rw[NP];exact bz ..
 have gC:∀j∈q',j∈s.q:=fun j hj=>by rw[hq];exact List.mem_cons_of_mem _ hj
 have hd:=c0.Ty;rw[hq] at hd;obtain⟨d1,d2⟩:=List.pairwise_cons.1 hd
 have Qe:∀j,(L2.ag j).a=(s.l.ag j).a∧(L2.ag j).t=(s.l.ag j).t∧(L2.ag j).w=(s.l.ag j).w∧(L2.ag j).c=(s.l.ag j).c:=fun j=>by
  rw[oP];have:=jd s i j q' en eb;exact⟨this.1,this.2.1,this.2.2.1,this.2.2.2.1⟩
 refine⟨c0.hk,Nat.lt_of_lt_of_le c0.Lz xZ,Nat.le_trans c0.IB hB,Nat.lt_of_lt_of_le c0.AB hB,uO,fun y hy=>bN y (c0.sA y hy),fun j hj=>bN _ (c0.sT j hj),Wd,fun g e h1 h2=>?_,fun j q1 hj pZ=>?_,fun j hj=>?_,fun j hj=>?_,fun t' JZ h'=>?_,?_,?_,gS,fun j hj he=>?_,by rw[So];exact c0.Tz,by rw[So];exact c0.dW⟩
 ·obtain⟨z1,z2⟩:=WY g e h1 h2
  obtain⟨j,q1,hj,pZ,hk⟩:=c0.zH g e z1 h2;have aN:j≠t:=fun z=>z2 q1 (by rw[←z];exact pZ) hk
  exact⟨j,q1,hj,by rw[ym j aN];exact pZ,hk⟩
 ·have aN:j≠t:=fun z=>by rw[z,Vs] at pZ;cases pZ
  rw[ym j aN] at pZ;have P:=c0.pk j q1 hj pZ;exact⟨by rw[hI j q1 hj aN pZ];exact P.zH,P.κ0,Nat.lt_of_lt_of_le P.κn xZ,bN _ P.bg,bN _ P.x,by show _<L2.wl;rw[rJ];exact P.wn,P.wb,by rw[(hw _).1];exact P.wl,by rw[(hw _).2];exact P.wk,by rw[V6 j aN];exact P.a,by show L2.us j=_;rw[EV];exact P.us,P.jH,P.fl⟩
 ·have bP:j∈q':=hj
  obtain⟨t',h1,h2,h3⟩:=c0.lP j (gC j bP);have aN:t'≠t:=fun z=>d1 j bP (by rw[ht,h2,z])
  refine⟨t',h1,(Qe j).2.1.trans h2,?_⟩
  show((L2.ag j).c=0∧_)∨((L2.ag j).c=1∧∃q,_∧(L2.ag j).w=_)
  rw[(Qe j).2.2.2,(Qe j).2.2.1,ym t' aN];exact h3
 ·show j<L2.al
  rw[fy];exact c0.ql j (gC j hj)
 ·have aN:t'≠t:=fun z=>by
   rw[z,Vs] at h';rcases h' with h'|⟨q,h'⟩<;>cases h'
  rw[ym t' aN] at h';obtain⟨j,hj,h1⟩:=c0.all t' JZ h';rw[hq] at hj;rcases List.mem_cons.1 hj with rfl|hj
  ·rw[ht] at h1;exact absurd (by omega) aN
  ·exact⟨j,hj,(Qe j).2.1.trans h1⟩
 ·show q'.Pairwise fun i j=>(L2.ag i).t≠(L2.ag j).t
  refine d2.imp fun{a b} h=>?_
  rw[(Qe a).2.1,(Qe b).2.1];exact h
 ·show q'.length=sumTo R.n (fun j=>u5 (σ'.tk j))+sumTo R.n (fun j=>xS (σ'.tk j))
  have h1:=sumTo_upd σ.tk lM u5 tn;have h2:=sumTo_upd σ.tk lM xS tn;obtain⟨a,b,e1,e2,e3⟩:=eY;rw[e1] at h1;rw[e2] at h2;have h3:=c0.cnt;rw[hq,List.length_cons] at h3;simp only[Gd.fr,Gd.pk] at h3;rw[NP];have z1:u5 lM=0:=rfl;have z2:xS lM=0:=rfl;rw[z1] at h1;rw[z2] at h2;unfold cu;omega
 ·have aN:j≠t:=fun z=>by rw[z,Vs] at he;cases he
  rw[ym j aN] at he
  show gQ (σ'.dn++R.S) (s.oh j) (L2.ou j).b.ch
  rw[So,RO];exact c0.ed j hj he
def Gd.lH(σ:Gd)(R:RN)(t κ:Nat):Gd:={σ with Inb:=cu (cu σ.Inb 0 (some (lX R))) κ none,St:=cu σ.St 0 (xL (rF R.k.A R.k.bU R.k.bS)),tk:=cu σ.tk t lM}
theorem FV(aX:Nat)(c:Frame)(cs:List Frame):(lY aX c cs).has aX:=Seat.one_has.2 rfl
theorem Co.VN(C:Co R σ s B)(H:xO R){i j:Nat}{q q1:Br}(hi:i<R.n)(hj:j<R.n)(h1:σ.tk i=iP q)(h2:σ.tk j=iP q1)(e:q1.κ=q.κ):j=i:=by
 have p1:=(C.pk i q hi h1).zH;have p2:=(C.pk j q1 hj h2).zH;rw[e,p1] at p2;have h3:=FV (R.k.aX j) q1.c q1.cs;rw[←Option.some.inj p2] at h3;exact H.ti j hj i hi (mP h3)
theorem H7(H:xO R)(c0:Co R σ s B)(hq:s.q=i::q')(ht:(s.l.ag i).t=(t:Int))(tn:t<R.n){q:Br}(hp:σ.tk t=iP q)(Ed:∀j,j<R.n→σ.tk j≠lM)(hL:σ.L=σ.pk R)(hB:B≤B'){en:Value}{eb:qP}(wn:Nat):zD R (σ.lH R t q.κ) {s.dL i q' en eb with l:=(s.l.pop i).iZ t wn} B' t q.κ q.bg:=by
 have P:=c0.pk t q tn hp;have hκ:=P.κ0
 have f0:(σ.lH R t q.κ).fr R=σ.fr R:=by
  have h1:=sumTo_upd σ.tk lM u5 tn;rw[hp] at h1;exact h1
 have f1:(σ.lH R t q.κ).pk R+1=σ.pk R:=by
  have h1:=sumTo_upd σ.tk lM xS tn;rw[hp] at h1;exact h1
 refine⟨CQ c0 hq ht tn ⟨0,1,by rw[hp];rfl,by rw[hp];rfl,rfl⟩ rfl rfl rfl (fun k=>?_) (fun j hj=>?_) rfl rfl rfl rfl (fun p hp=>hp) (fun p hp=>?_) (Nat.le_refl _) hB (fun j q1 hj aN h1=>?_) (fun g e h1 h2=>?_) (fun g y h1 h2=>?_) (by rw[f0];exact c0.nb),tn,bz ..,fun j hj aN=>?_,?_,hκ,P.κn,bz ..,P.bg,?_⟩
 ·show(upd s.l.wt wn _ k).l=_∧(upd s.l.wt wn _ k).b=_
  unfold upd
  by_cases e:k=wn
  ·subst e;simp;exact⟨rfl,rfl⟩
  ·simp[e]
 ·show(upd s.l.tk t _ j).a=_
  unfold upd;rw[if_neg hj]
 ·have:=c0.st p hp;exact⟨this.1,this.2.1,Nat.lt_of_lt_of_le this.2.2 hB⟩
 ·show cu (cu σ.Inb 0 _) q.κ none q1.κ=_
  rw[cq _ _ (fun e=>aN (c0.VN H tn hj hp h1 e)),cq _ _ (by have:=(c0.pk j q1 hj h1).κ0;omega)]
 ·have iq:cu (cu σ.Inb 0 (some (lX R))) q.κ none g=some e:=h1
  by_cases eg:g=q.κ
  ·rw[eg,bz] at iq;cases iq
  ·rw[cq _ _ eg,cq _ _ h2] at iq
   exact⟨iq,fun q1 pZ z=>by rw[hp] at pZ;cases pZ;exact eg z.symm⟩
 ·have iq:(cu (cu σ.Inb 0 (some (lX R))) q.κ none g).isSome:=h1
  have qA:cu σ.St 0 (xL (rF R.k.A R.k.bU R.k.bS)) g y:=h2
  show xL σ.st y
  by_cases e0:g=0
  ·subst e0;rw[bz] at qA
   obtain⟨p,hp,rfl⟩:=qA;exact⟨p,c0.sA p hp,rfl⟩
  ·rw[cq _ _ e0] at qA
   by_cases e1:g=q.κ
   ·subst e1;rw[bz] at iq;cases iq
   ·rw[cq _ _ e1,cq _ _ e0] at iq
    exact c0.MZ g y iq qA
 ·show cu σ.tk t lM j≠lM
  rw[cq _ _ aN];exact Ed j hj
 ·show cu (cu σ.Inb 0 _) q.κ none 0=_
  rw[cq _ _ (by omega),bz]
 ·show σ.L=_
  rw[hL,←f1]
theorem qK(tn:t<R.n)(V6:σ'.tk=cu σ.tk t lM)(So:σ'.dn=σ.dn):(cO R σ).Perm (own (R.k.T t) (σ.tk t)++cO R σ'):=by
 have h:=(vn (R:=R) (tk:=σ.tk) tn (b:=false)).append_right (σ.dn++R.S);rw[List.append_assoc] at h;unfold cO;rw[V6,So];exact h
end
end
section
open Go.Conc Go.RowKit Tryz
open Go.ConcN (sumTo sumTo_upd)
section
variable{R:RN}{Post:Value→World→Prop}{σ σ':Gd}{s:PS}{B B' t κ bg Λ i m:Nat}{q':List Nat}
theorem MR(H:xO R){w:World}{g:Goroutine}(c0:Co R σ s w.heap.size)(Ed:∀j,j<R.n→σ.tk j≠lM)(Eo:σ.Inb 0=none)(hL:σ.L=σ.pk R)(hS:Sat (ku R σ) w (pM s++cO R σ))(hP:PV (ku R σ) s (cy s))(hQ:QI s)(Eg:xM R.k.A (R.cR::R.oF) g)(kY:∀j q,j<R.n→σ.tk j=iP q→oH R Post (m+1) j q)(hq:s.q=i::q')(ht:(s.l.ag i).t=(t:Int))(tn:t<R.n){q:Br}(hp:σ.tk t=iP q)(hc:(s.l.ag i).c=1)(hw:(s.l.ag i).w=q.wn)(AV:zC R.k.V R.Lf m t q.wn ((s.l.pop i).iZ t q.wn)):xQ R Post σ 0 g w:=by
 have P:=c0.pk t q tn hp;have κ0:=P.κ0;have GG:=nM (cc:=R.cc) H.hA H.iA c0.n5;have F:aC prog true (DX (ku R σ)) (xQ R Post σ 0):=c0.Mi (Post:=Post) H 0;have LX:s.k.A=R.k.A:=by rw[c0.hk]
 have he:(jz s i).2=.func (.func 144) #[ptr q.x] #[]:=by
  unfold jz;simp only[hc,hw,Int.toNat_natCast,P.wb]
  rfl
 refine Lt F (fun a wr h=>c0.hB H a wr h) hS hP (c0.flat H) hQ hq (by rw[LX];exact Eg) he func144 (by rfl) (by rfl) fun fr w1 kK lF Mf k1 sC P1 P0=>?_
 rw[LX] at Mf
 have tT:Sat (ku R σ) w1 (pM (s.dL i q' kK lF)++(own (R.k.T t) (iP q)++cO R (σ.lH R t q.κ))):=by
  have:=sC.perm ((qK (σ':=σ.lH R t q.κ) tn rfl rfl).append_left _);rw[hp] at this;exact this
 have ID:∀{r},Has R.S r→Has (pM (s.dL i q' kK lF)++(own (R.k.T t) (iP q)++cO R (σ.lH R t q.κ))) r:=fun h=>(((h.app σ.dn).app _).app _).app _
 have VH:oR q.x 0 [ptr (R.k.T t)] false∈pM (s.dL i q' kK lF)++(own (R.k.T t) (iP q)++cO R (σ.lH R t q.κ)):=List.mem_append_right _ (List.mem_append_left _ (by simp[own]));have VG:oR q.x 1 [i6 0] true∈pM (s.dL i q' kK lF)++(own (R.k.T t) (iP q)++cO R (σ.lH R t q.κ)):=List.mem_append_right _ (List.mem_append_left _ (by simp[own]));have Oy:∀{o:Nat}{v:Value}{wr:Bool},(oR q.x o [v] wr).has (0,0):=⟨Nat.zero_lt_one,Nat.zero_lt_one⟩;have gT:=(tT.mem VH).val (0,0) Oy;have ox0:=((tT.mem VH).ok (0,0) Oy).1;have Uz:=(tT.mem VG).val (0,0) Oy;have VD:=(tT.mem VG).ok (0,0) Oy;have UR:=Has.au tT (ID ((H.jH (Nat.zero_lt_of_lt tn)).qb t tn));obtain⟨_,VO,AR⟩:=ID ((H.jH (Nat.zero_lt_of_lt tn)).qb t tn);have UQ:=tT.val VO _ AR (0,3) ⟨Nat.zero_lt_one,(by decide:3<4)⟩;have oT3:=(tT.ok VO _ AR (0,3) ⟨Nat.zero_lt_one,(by decide:3<4)⟩).1;have Zo:q.x≠R.k.T t:=fun e=>tT.dj VG (ga AR) rfl rfl Oy (j':=(0,1)) ⟨Nat.zero_lt_one,(by decide:1<4)⟩ (by show(⟨q.x,1+0,none⟩:Addr)=⟨R.k.T t,0+1,none⟩;rw[e])
 refine MQ F R.k.A (R.k.T t) q.x R.k.bU R.k.bS (R.k.aX t) fr (R.cR::R.oF) w1 Mf gT Uz (VD.2 rfl).2 UR UQ ox0 VD.1 (VD.2 rfl).1 (Has.rd tT (ID ((H.jH (Nat.zero_lt_of_lt tn)).qb t tn))) oT3 Zo (fun a w2 ⟨fM,hsend,GQ⟩ k2=>?_);have k1s:=k1.size;have Py:=k2.size;refine gG.assume GG fun yZ Xu=>?_
 have lR:∀c'∈R.cc,∃k',w2.heap[c']? =some (.chan 0 #[] false k' k' false):=yZ.2.1.2;have UB:R.k.aX t∈R.cc:=by simp[RN.cc];exact .inr (.inr ⟨t,tn,rfl⟩)
 obtain⟨nh,hgo⟩:=GQ (KD R.wI R.k.A R.cc σ.st) (xL (rF R.k.A R.k.bU R.k.bS)) w2.heap.size w2 (fun w h y hy=>h.2.1.1 y (c0.sA y hy)) (fun y hy=>⟨⟨y,hy,rfl⟩,by have:=(c0.st y (c0.sA y hy)).2.2;omega⟩)
 have Hw:Sat (ku R σ) w2 (pM (s.dL i q' kK lF)++(jw (R.k.T t) q.v false::(q.R++cO R (σ.lH R t q.κ)))):=by
  have e1:(pM (s.dL i q' kK lF)++(own (R.k.T t) (iP q)++cO R (σ.lH R t q.κ))).Perm (oR q.x 1 [i6 0] true::oR q.x 0 [ptr (R.k.T t)] false::(pM (s.dL i q' kK lF)++(jw (R.k.T t) q.v false::(q.R++cO R (σ.lH R t q.κ))))):=by
   have:=List.perm_append_comm_assoc [oR q.x 1 [i6 0] true,oR q.x 0 [ptr (R.k.T t)] false] (pM (s.dL i q' kK lF)++[jw (R.k.T t) q.v false]) (q.R++cO R (σ.lH R t q.κ))
   simpa [own] using this.symm
  have h1:=tT.perm e1;have h2:=(List.pairwise_cons.1 (sat_iff.1 h1).2).1
  have zI:Flat (own (R.k.T t) (iP q)++cO R (σ.lH R t q.κ)):=by
   have jo:=(c0.flat H);rw[cN] at jo ⊢;intro r hr;refine jo r ((qK (σ':=σ.lH R t q.κ) tn rfl rfl).mem_iff.2 ?_);rw[hp];exact hr
  have hr:∀r∈pM (s.dL i q' kK lF)++(own (R.k.T t) (iP q)++cO R (σ.lH R t q.κ)),∀g e n,r.row=some (g,e,n)→q.x≠g:=by
   obtain⟨ix,oN⟩:=kV VH;exact mS (b:=q.x) tT P1 zI oN (fun z=>by subst z;have h9:=congrArg (fun o=>o.map ah.wr) oN;cases h9) (fun z=>by subst z;have h9:=congrArg (fun o=>o.map ah.wr) oN;cases h9) (j0:=(0,0)) Oy rfl
  have h3:Sat (ku R σ) w2 (oR q.x 0 [ptr (R.k.T t)] false::(pM (s.dL i q' kK lF)++(jw (R.k.T t) q.v false::(q.R++cO R (σ.lH R t q.κ))))):=by
   refine h1.tail.kp k2 (fun r lD j hj z=>?_) (fun r lD g e n hg x hx=>?_)
   ·simp only[List.mem_cons,List.not_mem_nil,or_false] at z
    exact h2 r lD (.inl rfl) (0,0) j Oy hj z.symm
   ·simp only[List.mem_cons,List.not_mem_nil,or_false] at hx
    subst hx;exact hr r (e1.mem_iff.2 (List.mem_cons_of_mem _ lD)) g e n hg
  exact h3.tail
 refine gG.zd (Q':=QD R.k.A) (j:=q.κ) (c:=R.k.aX t) (kk:=0) (s:=lY (R.k.aX t) q.c q.cs) (v:=.int .i64 1) (a₂:=a) GG c0.D6
  {kc:=fun w k h=>wO (H.it t tn) UB h
   jh:=by omega
   jn:=P.κn
   hj:=P.zH
   hk:=⟨_,rfl⟩
   run:=fM
   send:=⟨.tuple #[],#[],fun d m _=>hsend _,by simp⟩
   ch:=lR _ UB} (sh:=lX R) (zO:=xL (rF R.k.A R.k.bU R.k.bS)) (nh:=nh+1) (yy H.we _) (fun l dr=>⟨wj dr,fun z=>?_⟩) (.inl ⟨nh,w2,rfl,hgo⟩) (fun c' eP=>?_) (fun g' s' c' h1 h2 h3 h4 h5=>?_) (fun k' g₂ eC hh Mc=>?_) (fun k' eC Mc=>Gb Mc (Kp.chan eC) (by simp))
 ·obtain⟨y,hy,rfl⟩:=dr
  simp only[rF,List.mem_cons,List.not_mem_nil,or_false] at hy;rcases hy with rfl|rfl<;>exact qe (by decide) (by decide) z
 ·rcases mQ eP with rfl|rfl
  ·exact lR _ (by simp[RN.cc])
  ·exact lR _ (by simp[RN.cc])
 ·obtain⟨j,q1,hj,pZ,kE,Cw⟩:=c0.inj h1 h3 h5
  have:=H.tw j hj;rcases mQ h4 with e|e
  ·exact this.1 (by rw[←Cw,e])
  ·exact this.2 (by rw[←Cw,e])
 ·have kc:Kp [] w2 (w2.setChan (R.k.aX t) 0 #[] false (k'+1) (k'+1) false):=Kp.chan eC
  have C1:=H7 (B':=(w2.setChan (R.k.aX t) 0 #[] false (k'+1) (k'+1) false).heap.size) (en:=kK) (eb:=lF) H c0 hq ht tn hp Ed hL (by rw[qd];omega) q.wn;have hκ:(q.κ==0)=false:=by simp;omega
  have F1:=C1.co.Mi (Post:=Post) H q.κ;rw[hκ] at F1;refine hh (fun g=>xQ R Post (σ.lH R t q.κ) q.κ g _) (uf F1 _) ?_;refine(kY t q tn hp).2 (σ.lH R t q.κ) {s.dL i q' kK lF with l:=(s.l.pop i).iZ t q.wn} _ C1 (Hw.JR kc) ⟨P1.jr,P1.en,P1.eo⟩ ⟨P0.lt,P0.all,P0.DT,P0.ws⟩ AV ?_ ?_ ?_ P.us (fun j q1 hj pZ=>?_)
  ·show(upd s.l.wt q.wn _ q.wn).l=_
   unfold upd;rw[if_pos rfl];exact P.wl
  ·show(upd s.l.wt q.wn _ q.wn).b=_
   unfold upd;rw[if_pos rfl];exact P.wk
  ·show(upd s.l.tk t _ t).a=_
   unfold upd;rw[if_pos rfl];exact P.a
  ·have h9:cu σ.tk t lM j=iP q1:=pZ
   by_cases e:j=t
   ·rw[e,bz] at h9;cases h9
   ·rw[cq _ _ e] at h9
    exact(kY j q1 hj h9).1
end
end
end Go.Proofs.YtobagnjnbmgidaaGreatDoor
