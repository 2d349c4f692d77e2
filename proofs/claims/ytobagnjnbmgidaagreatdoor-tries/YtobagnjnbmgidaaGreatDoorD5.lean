import Derived.Test.YtobagnjnbmgidaaGreatDoorD2
set_option linter.all false
set_option maxHeartbeats 8000000
set_option maxRecDepth 100000
namespace Go.Proofs.YtobagnjnbmgidaaGreatDoor
section
open Go.Conc Go.RowKit
open Go.ConcN (sumTo sumTo_upd)
theorem Sat.M1{Ok:Addr→Bool→Prop}{w:World}{x:Nat}{a b:Value}{M:List ah}(h:Sat Ok w (bR x [a,b]::M)):Sat Ok w (oR x 1 [b] true::oR x 0 [a] false::M):=by
 rw[sat_iff] at h ⊢;obtain⟨h1,h2⟩:=h;have H:=h1 _ (List.mem_cons_self ..)
 have h0:∀{o:Nat}{v:Value}{wr:Bool}(j:Ix),(oR x o [v] wr).has j→j=(0,0):=fun{o v wr} j hj=>by
  obtain⟨h1,h2⟩:=hj;have iq:j.1<1:=h1;have qA:j.2<1:=h2;cases j;simp at iq qA;subst iq;subst qA;rfl
 have b0:(bR x [a,b]).has (0,0):=⟨Nat.zero_lt_one,(by decide:0<2)⟩;have b1:(bR x [a,b]).has (0,1):=⟨Nat.zero_lt_one,(by decide:1<2)⟩;refine⟨fun r hr=>?_,List.pairwise_cons.2 ⟨fun r hr hw j j' hj bP e=>?_,List.pairwise_cons.2 ⟨fun r hr hw j j' hj bP e=>?_,(List.pairwise_cons.1 h2).2⟩⟩⟩
 ·rcases List.mem_cons.1 hr with rfl|hr
  ·exact⟨fun j hj=>by rw[h0 j hj];exact H.val (0,1) b1,fun j hj=>by rw[h0 j hj];exact H.ok (0,1) b1,fun _ j j' hj bP _=>by rw[h0 j hj,h0 j' bP],fun g e n z=>by cases z⟩
  ·rcases List.mem_cons.1 hr with rfl|hr
   ·exact⟨fun j hj=>by rw[h0 j hj];exact H.val (0,0) b0,fun j hj=>by rw[h0 j hj];exact⟨(H.ok (0,0) b0).1,fun z=>(by cases z)⟩,fun z=>(by cases z),fun g e n z=>(by cases z)⟩
   ·exact h1 r (List.mem_cons_of_mem _ hr)
 ·rw[h0 j hj] at e
  rcases List.mem_cons.1 hr with rfl|hr
  ·rw[h0 j' bP] at e;simp at e
  ·exact(List.pairwise_cons.1 h2).1 r hr (.inl rfl) (0,1) j' b1 bP e
 ·rw[h0 j hj] at e
  exact(List.pairwise_cons.1 h2).1 r hr (.inl rfl) (0,0) j' b0 bP e
def Nn(T aX x:Nat):List (Addr×Value):=[(⟨x,0,none⟩,ptr T),(⟨T,3,none⟩,.chan (some aX))]
def Gd.lJ(σ:Gd)(R:RN)(t:Nat)(q:Br):Gd:={st:=(⟨q.x,0,none⟩,ptr (R.k.T t))::σ.st,ng:=σ.ng,L:=σ.L,nb:=σ.nb,Inb:=cu (cu σ.Inb q.κ (some (lY (R.k.aX t) q.c q.cs))) 0 none,St:=cu σ.St q.κ (xL (Nn (R.k.T t) (R.k.aX t) q.x)),tk:=cu σ.tk t (iP q),dn:=σ.dn}
section
variable{R:RN}{Post:Value→World→Prop}{σ:Gd}{s s':PS}{B B' t κ bg Λ:Nat}
theorem EN(hi:t<R.n)(hl:σ.tk t=lM)(q:Br):(cO R (σ.lJ R t q)).Perm (own (R.k.T t) (iP q)++cO R σ):=by
 have h:=vn (R:=R) (tk:=cu σ.tk t (iP q)) hi (b:=false);rw[bz,TB,TA _ _ _ hl] at h;have h2:=h.append_right (σ.dn++R.S);rw[List.append_assoc] at h2;exact h2
abbrev PS.ve(s:PS)(t:Nat)(ly d:Int)(i x:Nat)(en:Value)(eb:qP)(b:Bk):PS:={s.c8 t ly d i x en eb with l:=(s.l.wait t ly d).Nr s.l.wl b}
theorem KF(C:zD R σ s B t κ bg){ly d:Int}{i x:Nat}{en:Value}{eb:qP}{b:Bk}{c:Frame}{cs:List Frame}{R':List ah}{v:Value}(hs:zA R.k R')(hf:Flat R')(hB:B≤B')(hx:x<B'):
 Co R (σ.lJ R t ⟨κ,s.l.wl,x,bg,c,cs,R',v,ly,b,(s.l.tk t).a,s.l.us t⟩) (s.ve t ly d i x en eb b) B':=by
 have c0:=C.co;generalize hq:(⟨κ,s.l.wl,x,bg,c,cs,R',v,ly,b,(s.l.tk t).a,s.l.us t⟩:Br)=q;have qκ:q.κ=κ:=by rw[←hq]
 have qw:q.wn=s.l.wl:=by rw[←hq]
 have qx:q.x=x:=by rw[←hq]
 have qc:q.c=c:=by rw[←hq]
 have qs:q.cs=cs:=by rw[←hq]
 have hκ:=C.κ0;have oP:∀j,j<s.l.al→(s.ve t ly d i x en eb b).l.ag j=s.l.ag j:=fun j hj=>by show upd _ _ _ j=_;unfold upd;rw[if_neg];rfl;exact Nat.ne_of_lt hj
 have fy:(s.ve t ly d i x en eb b).l.ag s.l.al=⟨s.l.now+d,t,s.l.wl,1,false⟩:=by show upd _ _ _ _=_;unfold upd;rw[if_pos];rfl
 have bY:∀j,j∈(s.ve t ly d i x en eb b).q↔j=s.l.al∨j∈s.q:=fun j=>by
  show j∈s.q.take i++s.l.al::s.q.drop i↔_
  conv=>rhs;rhs;rw[←List.take_append_drop i s.q]
  simp only[List.mem_append,List.mem_cons]
  constructor
  ·rintro (h|h|h)
   ·exact .inr (.inl h)
   ·exact .inl h
   ·exact .inr (.inr h)
  ·rintro (h|h|h)
   ·exact .inr (.inl h)
   ·exact .inl h
   ·exact .inr (.inr h)
 have eY:∀k,k<s.l.wl→((s.ve t ly d i x en eb b).l.wt k).l=(s.l.wt k).l∧((s.ve t ly d i x en eb b).l.wt k).b=(s.l.wt k).b:=fun k hk=>by
  have:(s.ve t ly d i x en eb b).l.wt k=s.l.wt k:=by
   show upd (upd s.l.wt s.l.wl _) s.l.wl _ k=_
   unfold upd;rw[if_neg (by omega),if_neg (by omega)]
  rw[this];exact⟨rfl,rfl⟩
 have UA:((s.ve t ly d i x en eb b).l.wt s.l.wl).l=ly∧((s.ve t ly d i x en eb b).l.wt s.l.wl).b=b:=by
  have:(s.ve t ly d i x en eb b).l.wt s.l.wl=⟨t,ly,false,false,b⟩:=by
   show upd _ s.l.wl {upd s.l.wt s.l.wl _ s.l.wl with b:=b} s.l.wl=_
   unfold upd;rw[if_pos rfl,if_pos rfl]
  rw[this];exact⟨rfl,rfl⟩
 have nt:∀j∈s.q,(s.l.ag j).t≠t:=fun j hj e=>by
  obtain⟨t',h1,h2,h3⟩:=c0.lP j hj;have:t'=t:=by omega
  subst this;rcases h3 with ⟨_,h3⟩|⟨_,q',h3,_⟩<;>(rw[C.lv] at h3;cases h3)
 have ym:∀j,j≠t→(σ.lJ R t q).tk j=σ.tk j:=fun j hj=>cq _ _ hj
 refine⟨c0.hk,c0.Lz,Nat.le_trans c0.IB hB,Nat.lt_of_lt_of_le c0.AB hB,fun p hp=>?_,fun y hy=>List.mem_cons_of_mem _ (c0.sA y hy),fun j hj=>List.mem_cons_of_mem _ (c0.sT j hj),fun g y h1 h2=>?_,fun g e h1 h2=>?_,fun j q' hj dQ=>?_,fun j hj=>?_,fun j hj=>?_,fun t' JZ h'=>?_,?_,?_,?_,fun j hj he=>?_,c0.Tz,c0.dW⟩
 ·rcases List.mem_cons.1 hp with rfl|hp
  ·exact⟨(by decide:0≠5),(by decide:0≠6),by show q.x<B';rw[qx];exact hx⟩
  ·have:=c0.st p hp;exact⟨this.1,this.2.1,Nat.lt_of_lt_of_le this.2.2 hB⟩
 ·have iq:(cu (cu σ.Inb q.κ (some (lY (R.k.aX t) q.c q.cs))) 0 none g).isSome:=h1
  have qA:cu σ.St q.κ (xL (Nn (R.k.T t) (R.k.aX t) q.x)) g y:=h2
  by_cases e0:g=0
  ·subst e0;rw[bz] at iq;cases iq
  ·rw[cq _ _ e0] at iq
   by_cases e:g=q.κ
   ·subst e;rw[bz] at qA
    obtain⟨p,hp,rfl⟩:=qA;simp only[Nn,List.mem_cons,List.not_mem_nil,or_false] at hp;rcases hp with rfl|rfl
    ·exact⟨_,List.mem_cons_self ..,rfl⟩
    ·exact⟨_,List.mem_cons_of_mem _ (c0.sT t C.tn),rfl⟩
   ·rw[cq _ _ e] at iq qA
    obtain⟨p,hp,rfl⟩:=c0.MZ g y iq qA;exact⟨p,List.mem_cons_of_mem _ hp,rfl⟩
 ·have iq:cu (cu σ.Inb q.κ (some (lY (R.k.aX t) q.c q.cs))) 0 none g=some e:=h1
  rw[cq _ _ h2] at iq
  by_cases eg:g=q.κ
  ·exact⟨t,q,C.tn,bz ..,eg.symm⟩
  ·rw[cq _ _ eg] at iq
   obtain⟨j,q',hj,dQ,gB⟩:=c0.zH g e iq h2;exact⟨j,q',hj,by rw[ym j (fun z=>by rw[z,C.lv] at dQ;cases dQ)];exact dQ,gB⟩
 ·by_cases e:j=t
  ·subst e
   have:q'=q:=by
    have h9:cu σ.tk j (iP q) j=iP q':=dQ;rw[bz] at h9;cases h9;rfl
   subst this;refine⟨?_,by rw[qκ];exact hκ,by rw[qκ];exact C.κn,List.mem_cons_of_mem _ (by rw[←hq];exact C.bg),List.mem_cons_self ..,by rw[qw];exact Nat.lt_succ_self _,?_,by rw[qw,←hq];exact UA.1,by rw[qw,←hq];exact UA.2,?_,by rw[←hq];rfl,by rw[←hq];exact hs,by rw[←hq];exact hf⟩
   ·show cu (cu σ.Inb q'.κ _) 0 none q'.κ=_
    rw[cq _ _ (by rw[qκ];omega),bz]
   ·show upd s.wb s.l.wl x q'.wn=_
    rw[qw,qx];unfold upd;rw[if_pos rfl]
   ·show(upd s.l.tk j _ j).a=_
    rw[←hq];unfold upd;rw[if_pos rfl]
  ·rw[ym j e] at dQ
   have P:=c0.pk j q' hj dQ;have aN:q'.κ≠q.κ:=fun z=>by have:=P.zH;rw[z,qκ,C.iκ] at this;cases this
   refine⟨?_,P.κ0,P.κn,List.mem_cons_of_mem _ P.bg,List.mem_cons_of_mem _ P.x,Nat.lt_succ_of_lt P.wn,?_,by rw[(eY _ P.wn).1];exact P.wl,by rw[(eY _ P.wn).2];exact P.wk,?_,P.us,P.jH,P.fl⟩
   ·show cu (cu σ.Inb q.κ _) 0 none q'.κ=_
    rw[cq _ _ (by have:=P.κ0;omega),cq _ _ aN];exact P.zH
   ·show upd s.wb s.l.wl x q'.wn=_
    have:=P.wn;unfold upd;rw[if_neg (by omega)];exact P.wb
   ·show(upd s.l.tk t _ j).a=_
    unfold upd;rw[if_neg e];exact P.a
 ·rcases(bY j).1 hj with rfl|hj
  ·rw[fy];exact⟨t,C.tn,rfl,.inr ⟨rfl,q,bz ..,by rw[qw]⟩⟩
  ·rw[oP j (c0.ql j hj)]
   obtain⟨t',h1,h2,h3⟩:=c0.lP j hj;have aN:t'≠t:=fun z=>nt j hj (by rw[h2,z])
   exact⟨t',h1,h2,by rw[ym t' aN];exact h3⟩
 ·rcases(bY j).1 hj with rfl|hj
  ·exact Nat.lt_succ_self _
  ·exact Nat.lt_succ_of_lt (c0.ql j hj)
 ·by_cases e:t'=t
  ·exact⟨s.l.al,(bY _).2 (.inl rfl),by rw[fy,e]⟩
  ·rw[ym t' e] at h'
   obtain⟨j,hj,h1⟩:=c0.all t' JZ h';exact⟨j,(bY j).2 (.inr hj),by rw[oP j (c0.ql j hj)];exact h1⟩
 ·have hd:=c0.Ty
  show(s.q.take i++s.l.al::s.q.drop i).Pairwise _
  rw[←List.take_append_drop i s.q,List.pairwise_append] at hd;obtain⟨p1,p2,p3⟩:=hd;have ht:∀j∈s.q.take i,j∈s.q:=fun j hj=>List.mem_of_mem_take hj
  have Sm:∀j∈s.q.drop i,j∈s.q:=fun j hj=>List.mem_of_mem_drop hj
  have hh:∀j∈s.q,∀k∈s.q,(s.l.ag j).t≠(s.l.ag k).t→((s.ve t ly d i x en eb b).l.ag j).t≠((s.ve t ly d i x en eb b).l.ag k).t:=fun j hj k hk h=>by rw[oP j (c0.ql j hj),oP k (c0.ql k hk)];exact h
  rw[List.pairwise_append,List.pairwise_cons];refine⟨List.Pairwise.imp_of_mem (fun ha hb h=>hh _ (ht _ ha) _ (ht _ hb) h) p1,⟨fun j hj=>?_,List.Pairwise.imp_of_mem (fun ha hb h=>hh _ (Sm _ ha) _ (Sm _ hb) h) p2⟩,fun j hj k hk=>?_⟩
  ·rw[fy,oP j (c0.ql j (Sm j hj))];exact fun z=>nt j (Sm j hj) z.symm
  ·rcases List.mem_cons.1 hk with rfl|hk
   ·rw[fy,oP j (c0.ql j (ht j hj))];exact nt j (ht j hj)
   ·exact hh j (ht j hj) k (Sm k hk) (p3 j hj k hk)
 ·show(s.q.take i++s.l.al::s.q.drop i).length=sumTo R.n (fun j=>u5 (cu σ.tk t (iP q) j))+sumTo R.n (fun j=>xS (cu σ.tk t (iP q) j))
  have h1:=sumTo_upd σ.tk (iP q) u5 C.tn;have h2:=sumTo_upd σ.tk (iP q) xS C.tn;rw[C.lv] at h1 h2;simp only[u5,xS] at h1 h2;have h3:=c0.cnt
  have h4:(s.q.take i++s.l.al::s.q.drop i).length=s.q.length+1:=by
   conv=>rhs;rw[←List.take_append_drop i s.q]
   simp only[List.length_append,List.length_cons];omega
  rw[h4];simp only[Gd.fr,Gd.pk] at h3;unfold cu;simp only[u5,xS] at h3 ⊢;omega
 ·show σ.nb+sumTo R.n (fun j=>u5 (cu σ.tk t (iP q) j))≤9
  have h1:=sumTo_upd σ.tk (iP q) u5 C.tn;rw[C.lv] at h1;have h3:=c0.nb;simp only[u5,Gd.fr] at h1 h3;unfold cu;simp only[u5] at h3 ⊢;omega
 ·have aN:j≠t:=fun z=>by
   have h9:cu σ.tk t (iP q) j=CK:=he;rw[z,bz] at h9;cases h9
  rw[ym j aN] at he;exact c0.ed j hj he
end
end
section
open Go.Conc Go.RowKit
open Go.ConcN (sumTo sumTo_upd)
section
variable{R:RN}{Post:Value→World→Prop}{σ:Gd}{s s':PS}{B B' t κ bg Λ:Nat}
theorem Has.au{Ok:Addr→Bool→Prop}{w:World}{M:List ah}{b o:Nat}{v:Value}{vs:List Value}(h:Sat Ok w M)(hr:Has M (oR b o (v::vs) false)):w.cell? ⟨b,o,none⟩=some v:=by
 obtain⟨_,i,hi⟩:=hr;exact h.val i _ hi (0,0) ⟨Nat.zero_lt_one,by simp⟩
theorem Co.inj(C:Co R σ s B){g c':Nat}{e:Seat}(h0:g≠0)(hs:σ.Inb g=some e)(hc:e.has c'):∃j q,j<R.n∧σ.tk j=iP q∧q.κ=g∧c'=R.k.aX j:=by
 obtain⟨j,q,hj,hq,hk⟩:=C.zH g e hs h0;have:=(C.pk j q hj hq).zH;rw[hk,hs] at this;rw[Option.some.inj this] at hc;exact⟨j,q,hj,hq,hk,mP hc⟩
theorem MS(H:xO R)(IH:∀m,m<Λ→vW R Post m)(p:TW R Post Λ t κ bg)(s:PS)(w:World)(i x:Nat)(en:Value)(eb:qP)(ly:Nat)(d:Int)(b:Bk)(c:Frame)(cs:List Frame)(R':List ah)(v:Value)(m:Nat)(g1:Gu t p.s0 s)(hS:Sat (ku R p.σ) w (pM (s.c8 t ly d i x en eb)++(jw (R.k.T t) v false::bR x [ptr (R.k.T t),i6 0]::(R'++cO R p.σ))))(hP:PV (ku R p.σ) (s.c8 t ly d i x en eb) (cy (s.c8 t ly d i x en eb)))(hQ:QI (s.c8 t ly d i x en eb))(hF:Flat (R'++cO R p.σ))(bN:zA R.k R')(hB:p.B≤w.heap.size)(cL:Fin R.k.V R.Lf m none ((s.l.wait t ly d).Nr s.l.wl b))(hm:m≤p.sj)(K:∀(p':TW R Post Λ t κ bg) s' w' m',m'<m→m'≤p'.sj→Cn (eD R Post Λ t κ bg) R.k t p' s' w' v R'→zC R.k.V R.Lf m' t s.l.wl s'.l→(s'.l.wt s.l.wl).l=ly→(s'.l.wt s.l.wl).b=b→(s'.l.tk t).a=(s.l.tk t).a→s'.l.us t=s.l.us t→xQ R Post p'.σ κ (G (c.finish (i6 1)) cs) w'):
 xQ R Post p.σ κ (G (Frame.enter Tryz.prog 153 #[ptr x] .normal) (c::cs)) w:=by
 have C:=p.OW;have c0:Co R p.σ s p.B:=C.co.gu C.lv g1 g1.wl;have Ct:zD R p.σ s p.B t κ bg:={C with co:=c0};have κ0:=C.κ0;have hκ:(κ==0)=false:=by simp;omega
 have Wt:=p.lt;have GG:=nM (cc:=R.cc) H.hA H.iA c0.n5;refine gG.assume GG fun hK Xt=>?_
 have x0:w.cell? ⟨x,0,none⟩=some (ptr (R.k.T t)):=by
  have hm:bR x [ptr (R.k.T t),i6 0]∈pM (s.c8 t ly d i x en eb)++(jw (R.k.T t) v false::bR x [ptr (R.k.T t),i6 0]::(R'++cO R p.σ)):=by simp
  exact(hS.mem hm).val (0,0) ⟨Nat.zero_lt_one,(by decide:0<2)⟩
 have t0:w.cell? ⟨R.k.T t,0,none⟩=some (ptr R.k.A):=Has.au hS (((bN.qb t C.tn).pre _).cons.cons.app _);have F:=c0.Mi (Post:=Post) H κ;rw[hκ] at F;refine HO F R.k.A (R.k.T t) R.k.bU (R.k.aX t) x c cs w x0 t0 (hK.2.1.1 _ (c0.sA (⟨R.k.A,3,none⟩,.chan (some R.k.bU)) (List.mem_cons_self ..))) ⟨qe (by decide) (by decide),fun h=>by cases h⟩ ⟨qe (by decide) (by decide),fun h=>by cases h⟩ ⟨qe (by decide) (by decide),fun h=>by cases h⟩ (fun a ⟨fM,hsend,GQ⟩=>?_);clear F;have Zv:x<w.heap.size:=aq x0;have OY:=KF (ly:=ly) (d:=d) (i:=i) (x:=x) (en:=en) (eb:=eb) (b:=b) (c:=c) (cs:=cs) (v:=v) Ct bN hF.left hB Zv;generalize hq:(⟨κ,s.l.wl,x,bg,c,cs,R',v,ly,b,(s.l.tk t).a,s.l.us t⟩:Br)=q at OY;have qκ:q.κ=κ:=by rw[←hq]
 have qx:q.x=x:=by rw[←hq]
 have qc:q.c=c:=by rw[←hq]
 have qs:q.cs=cs:=by rw[←hq]
 have GG':=nM (cc:=R.cc) H.hA H.iA OY.n5;have Tg:(p.σ.lJ R t q).st=(⟨x,0,none⟩,ptr (R.k.T t))::p.σ.st:=by simp only[Gd.lJ,qx]
 have zL:KD R.wI R.k.A R.cc (p.σ.lJ R t q).st w:=by rw[Tg];exact⟨hK.1,wN x0 hK.2.1,hK.2.2⟩
 have qt:∀w,KD R.wI R.k.A R.cc (p.σ.lJ R t q).st w→KD R.wI R.k.A R.cc p.σ.st w:=fun w h=>by rw[Tg] at h;exact⟨h.1,GJ (fun y hy=>List.mem_cons_of_mem _ hy) (fun _ h=>h) h.2.1,h.2.2⟩
 refine gG.less GG' qt zL ?_
 have kx:∀w,KD R.wI R.k.A R.cc (p.σ.lJ R t q).st w→w.cell? ⟨x,0,none⟩=some (ptr (R.k.T t))∧w.cell? ⟨R.k.T t,3,none⟩=some (.chan (some (R.k.aX t))):=fun w h=>by
  rw[Tg] at h;exact⟨h.2.1.1 _ (List.mem_cons_self ..),h.2.1.1 _ (List.mem_cons_of_mem _ (c0.sT t C.tn))⟩
 obtain⟨nh,hgo⟩:=GQ (KD R.wI R.k.A R.cc (p.σ.lJ R t q).st) (xL (Nn (R.k.T t) (R.k.aX t) x)) w.heap.size w kx ⟨⟨_,List.mem_cons_self ..,rfl⟩,Zv⟩ ⟨⟨_,List.mem_cons_of_mem _ (List.mem_cons_self ..),rfl⟩,aq t0⟩;have Rr:R.k.bU∈R.cc:=by simp[RN.cc]
 have lR:∀c'∈R.cc,∃k',w.heap[c']? =some (.chan 0 #[] false k' k' false):=hK.2.1.2;have UB:R.k.aX t∈R.cc:=by simp[RN.cc];exact .inr (.inr ⟨t,C.tn,rfl⟩)
 have Hw:Sat (ku R p.σ) w (pM (s.ve t ly d i x en eb b)++(own (R.k.T t) (iP q)++cO R p.σ)):=by
  have h1:Sat (ku R p.σ) w (bR x [ptr (R.k.T t),i6 0]::(pM (s.c8 t ly d i x en eb)++(jw (R.k.T t) v false::(R'++cO R p.σ)))):=hS.perm (by
   have:=List.perm_append_comm_assoc [bR x [ptr (R.k.T t),i6 0]] (pM (s.c8 t ly d i x en eb)++[jw (R.k.T t) v false]) (R'++cO R p.σ)
   simpa using this.symm)
  refine h1.M1.perm ?_;have:=List.perm_append_comm_assoc [oR x 1 [i6 0] true,oR x 0 [ptr (R.k.T t)] false] (pM (s.c8 t ly d i x en eb)++[jw (R.k.T t) v false]) (R'++cO R p.σ);rw[←hq]
  show List.Perm _ (pM (s.c8 t ly d i x en eb)++_)
  simpa [own] using this
 have PB:oR x 0 [ptr (R.k.T t)] false∈pM (s.ve t ly d i x en eb b)++(own (R.k.T t) (iP q)++cO R p.σ):=by rw[←hq];simp[own]
 have Cy:Sat (ku R (p.σ.lJ R t q)) w (pM (s.ve t ly d i x en eb b)++cO R (p.σ.lJ R t q)):=by
  have h1:=Hw.still (u:=ptr (R.k.T t)) PB;rw[←Tg] at h1;exact h1.perm ((EN C.tn C.lv q).symm.append_left _)
 have hPt:PV (ku R (p.σ.lJ R t q)) (s.ve t ly d i x en eb b) (cy (s.ve t ly d i x en eb b)):=by
  have h0:PV (ku R p.σ) (s.ve t ly d i x en eb b) (cy (s.ve t ly d i x en eb b)):=⟨hP.jr,hP.en,hP.eo⟩;have h1:=h0.still (u:=ptr (R.k.T t)) Hw PB;rw[←Tg] at h1;exact h1
 refine gG.zd (Q':=QD R.k.A) (j:=0) (c:=R.k.bU) (kk:=0) (s:=lX R) (v:=.agg #[]) (a₂:=a) GG' c0.D6
  {kc:=fun w k h=>wO H.iw Rr h
   jh:=by omega
   jn:=c0.Lz
   hj:=C.i0
   hk:=⟨_,rfl⟩
   run:=fM
   send:=⟨.tuple #[],#[],fun d m _=>by rw[hκ];exact hsend _,by simp⟩
   ch:=lR _ Rr} (sh:=lY (R.k.aX t) c cs) (zO:=xL (Nn (R.k.T t) (R.k.aX t) x)) (nh:=nh+1) (Seat.one_wf _ _ _ _) (fun l hl=>⟨wj hl,fun z=>?_⟩) (.inl ⟨nh,w,rfl,by rw[hκ];exact hgo⟩) (fun c' eP=>by rw[mP eP];exact lR _ UB) (fun g' s' c' h1 h2 h3 h4 h5=>?_) (fun k' g₂ eC hh Mc=>?_) (fun k' eC Mc=>Gb Mc (Kp.chan eC) (by simp))
 ·obtain⟨y,hy,rfl⟩:=hl
  simp only[Nn,List.mem_cons,List.not_mem_nil,or_false] at hy;rcases hy with rfl|rfl<;>exact qe (by decide) (by decide) z
 ·obtain⟨j,q',hj,dQ,gB,eP⟩:=c0.inj h2 h3 h5
  have e1:=mP h4;have Ob:j=t:=H.ti j hj t C.tn (by rw[←eP,e1]);rw[Ob,C.lv] at dQ;cases dQ
 ·have kc:Kp [] w (w.setChan R.k.bU 0 #[] false (k'+1) (k'+1) false):=Kp.chan eC
  have Fp:=OY.Mi (Post:=Post) H 0;have eI:(p.σ.lJ R t q).Inb=Go.ConcN.upd (Go.ConcN.upd p.σ.Inb κ (some (lY (R.k.aX t) c cs))) 0 none:=by simp only[Gd.lJ,qκ,qc,qs]
  have eS:(p.σ.lJ R t q).St=Go.ConcN.upd p.σ.St κ (xL (Nn (R.k.T t) (R.k.aX t) x)):=by simp only[Gd.lJ,qκ,qx]
  rw[←eI,←eS];refine hh 0 (by omega) (fun g=>xQ R Post (p.σ.lJ R t q) 0 g _) (uf Fp _) (fun g' qY=>?_);refine IH m (by omega) (p.σ.lJ R t q) (s.ve t ly d i x en eb b) _ g' (by rw[qd];exact OY) (fun j hj=>?_) (by rw[eI];exact Go.ConcN.upd_same ..) ?_ (Cy.JR kc) hPt ⟨hQ.lt,hQ.all,hQ.DT,hQ.ws⟩ cL (fun j q' hj dQ=>?_) qY
  ·by_cases e:j=t
   ·subst e;show cu p.σ.tk j (iP q) j≠lM;rw[bz];exact fun z=>by cases z
   ·show cu p.σ.tk t (iP q) j≠lM;rw[cq _ _ e];exact C.Zj j hj e
  ·show p.σ.L=sumTo R.n (fun j=>xS (cu p.σ.tk t (iP q) j))
   have h2:=sumTo_upd p.σ.tk (iP q) xS C.tn;rw[C.lv] at h2;have h3:=C.L;simp only[xS,Gd.pk] at h2 h3;unfold cu;simp only[xS] at h3 ⊢;omega
  ·by_cases e:j=t
   ·subst e
    have:q'=q:=by
     have h9:cu p.σ.tk j (iP q) j=iP q':=dQ;rw[bz] at h9;cases h9;rfl
    subst this;refine oH.of fun m' uR σ1 s1 w1 C1 au pv qi fo f1 f2 f3 f4 rs=>?_
    rw[←hq] at C1 au fo f1 f2 f3 f4 ⊢;exact K ⟨σ1,s1,w1.heap.size,m',C1,rs,by omega⟩ s1 w1 m' uR (Nat.le_refl _) ⟨au,pv,qi,hF.left.app (C1.co.flat H),bN,Nat.le_refl _,Gu.refl _ _,C1.co.hk,C1.co.q9 H⟩ fo f1 f2 f3 f4
   ·have h9:cu p.σ.tk t (iP q) j=iP q':=dQ
    rw[cq _ _ e] at h9;exact(p.rs j q' hj h9).mono hm
theorem OD(H:xO R)(IH:∀m,m<Λ→vW R Post m)(ht:t<R.n):pU (eD R Post Λ t κ bg) R.k R.Lf t:=
 {V:=H.V
  tn:=ht
  f:=fun p=>by
   have F:=p.OW.co.Mi (Post:=Post) H κ;have hκ:(κ==0)=false:=by have:=p.OW.κ0;simp;omega
   rw[hκ] at F;exact F
  hB:=fun p=>p.OW.co.hB H
  wait:=fun p s w i x en eb ly d b c cs R' v m g1 _ _ _ hS hP hQ hF bN hB cL hm K=>MS H IH p s w i x en eb ly d b c cs R' v m g1 hS hP hQ hF bN hB cL hm K}
end
end
section
open Go.Conc Go.RowKit Go.Extern Tryz
theorem OL(w:World):(binOp .eql 20 .nilIface .nilIface).events prog w #[]=#[]:=by kernel_rfl
theorem OK(w:World):(binOp .neq 20 .nilIface .nilIface).events prog w #[]=#[]:=by kernel_rfl
def TP(A T bS bg bt X:Nat)(fr:Frame)(cs:List Frame):Prop:=∀(Ok:Addr→Bool→Prop)(Ψ:Goroutine→World→Prop)(w3:World)(u:Value),aC prog false (DX Ok) Ψ→w3.cell? ⟨bt,0,none⟩=some (.pointer (some ⟨T,0,none⟩))→w3.cell? ⟨X,0,none⟩=some (.pointer (some ⟨A,0,none⟩))→w3.cell? ⟨A,4,none⟩=some (.chan (some bS))→w3.cell? ⟨T,7,none⟩=some u→w3.frozen? ⟨T,7,none⟩=false→
 Ok ⟨bt,0,none⟩ false→Ok ⟨X,0,none⟩ false→Ok ⟨A,4,none⟩ false→Ok ⟨T,7,none⟩ true→(∀gE w4,T8 A bS bg gE→Kp [] w3 w4 [⟨T,7,none⟩]→Ψ gE w4)→Ψ (G (fr.finish (.tuple #[])) cs) w3
theorem MW{Ok:Addr→Bool→Prop}{Ψ:Goroutine→World→Prop}(F:aC prog false (DX Ok) Ψ)(A T bS bg bf bw bt X bl bo bi:Nat)(w0:World)(aJ:w0.cell? ⟨bf,0,none⟩=some (.func (.func 62) #[] #[.pointer (some ⟨bw,0,none⟩),.pointer (some ⟨bt,0,none⟩),.pointer (some ⟨X,0,none⟩)]))(eZ:w0.cell? ⟨bw,0,none⟩=some (.func (.func 37) #[] #[.pointer (some ⟨bl,0,none⟩),.pointer (some ⟨bo,0,none⟩),.pointer (some ⟨bi,0,none⟩)]))(yc:w0.cell? ⟨bt,0,none⟩=some (.pointer (some ⟨T,0,none⟩)))(o1:Ok ⟨bf,0,none⟩ false)(o2:Ok ⟨bw,0,none⟩ false)(o3:Ok ⟨bt,0,none⟩ false)(hc:∀fr cs,TP A T bS bg bt X fr cs→Ψ (G (Frame.enter prog 37 #[.pointer (some ⟨T,0,none⟩),.pointer (some ⟨bl,0,none⟩),.pointer (some ⟨bo,0,none⟩),.pointer (some ⟨bi,0,none⟩)] .normal) (fr::cs)) w0):Ψ (born prog (call89 bg bf)) w0:=by
 refine(uf F w0).step _ _ rfl (fun w _=>⟨#[],O2 bg bf w,by simp⟩) ?_;unfold Bm;refine F.bh ?_;refine F.ak ?_;try walk_nrm
 refine F.HU rfl rfl (by decide) rfl rfl rfl ?_;walk_nrm;refine F.Ey ?_;refine F.ol rfl rfl rfl fun d K h=>?_;go_simp;refine h _ (fun e m=>?_) ?_;simp[go_sem, *] at m;subst m;exact ff (w:=w0) (by assumption) (by first|assumption|(apply b8<;>dsimp only<;>omega));clear h K d;try walk_nrm
 refine F.Bc rfl rfl (by decide) rfl rfl func62 (by rfl) (by rfl) ?_;try walk_nrm
 rw[enter_at _ func62 rfl];simp only[ntmps62,mV,Nat.reduceAdd,Nat.reduceSub];refine F.bh ?_;refine F.ol rfl rfl rfl fun d K h=>?_;go_simp;refine h _ (fun e m=>?_) ?_;simp[go_sem, *] at m;subst m;exact ff (w:=w0) (by assumption) (by first|assumption|(apply b8<;>dsimp only<;>omega));clear h K d;try walk_nrm
 refine F.ol rfl rfl rfl fun d K h=>?_;go_simp;refine h _ (fun e m=>?_) ?_;simp[go_sem, *] at m;subst m;exact ff (w:=w0) (by assumption) (by first|assumption|(apply b8<;>dsimp only<;>omega));clear h K d;try walk_nrm
 refine F.Bc rfl rfl (by decide) rfl rfl func37 (by rfl) (by rfl) ?_;try walk_nrm
 refine hc _ _ ?_;clear F aJ eZ yc o1 o2 o3 hc;intro Ok Ψ w3 u F SC Kk yf ZE Ys o4 o5 o6 o7 hE;have t6:=OK;have t7:=OL;have kp:Kp [] w3 w3 [⟨T,7,none⟩]:=Kp.refl _;rw[Frame.finish_at];try walk_nrm
 refine F.cI ?_;refine F.ol rfl rfl rfl fun d K h=>?_;go_simp;refine h _ (fun e m=>?_) ?_;simp[go_sem, *] at m;subst m;exact ff (w:=w3) (by assumption) (by first|assumption|(apply b8<;>dsimp only<;>omega));clear h K d;try walk_nrm
 iterate 2 (refine F.ak ?_;try walk_nrm)
 refine F.op rfl rfl (by decide) (fun d K hK=>?_);go_simp;rw[setCell_at'];refine hK _ _ ⟨DX.set _ (by(first|assumption|(apply b8<;>dsimp only<;>omega))) (fun e he=>?_),?_⟩
 ·have hm:=mem_listed he
  simp[go_sem,storedEv,dh,eM,dm,fB,eB, *] at hm;subst hm;exact .inl ⟨_,rfl,rfl,by(first|assumption|(apply b8<;>dsimp only<;>omega)),by simp only[fV,size_set];first|omega|exact aq (by assumption)⟩
 clear hK K d;try walk_nrm
 generalize fD:World.setCell w3 _ _=w4;have Qu:=lW fD;replace Ys:=aK Ys fD;replace Kk:=aS Kk fD (by simp<;>omega);replace yf:=aS yf fD (by simp<;>omega);replace SC:=aS SC fD (by simp<;>omega);replace ZE:=dP ZE fD;replace kp:=kp.rD fD (by first|(left;simp;done)|(right;left;simp;done)|(right;right;dsimp only;omega));refine F.Ey ?_;refine F.ol rfl rfl rfl fun d K h=>?_;go_simp;refine h _ (fun e m=>?_) ?_;simp[go_sem, *] at m;subst m;exact ff (w:=w4) (by assumption) (by first|assumption|(apply b8<;>dsimp only<;>omega));clear h K d;try walk_nrm
 iterate 2 (refine F.ak ?_;try walk_nrm)
 refine F.ol rfl rfl rfl fun d K h=>?_;go_simp;refine h _ (fun e m=>?_) ?_;simp[go_sem, *] at m;subst m;exact ff (w:=w4) (by assumption) (by first|assumption|(apply b8<;>dsimp only<;>omega));clear h K d;try walk_nrm
 refine F.ak ?_;try walk_nrm
 refine hE _ w4 ⟨rfl,fun d=>?_,fun KK h5 UO=>?_⟩ kp
 ·rw[stepG_comm (cases:=#[scase bS (.agg #[]) (.tuple #[])]) (blocking:=true) (shape:=.send) (w':=d) rfl rfl (by decide) (by simp[execOp,scase,Act.eval])]
  rw[listed_nil (by simp[go_sem,execOp,Act.eval])]
 clear F;have F:=td (P:=prog) (K:=KK) (Gp:=iF A) 0;rw[served_fr,Frame.finish_at];try walk_nrm
 refine F.re ?_;refine F.ctl (fun _=>stepG_end) ?_;refine F.aF rfl rfl func62 (resultsC_none (by rfl) _) ?_;rw[Frame.finish_at];try walk_nrm
 refine F.re ?_;refine F.ctl (fun _=>stepG_end) ?_;refine F.ctl (fun _=>nH rfl func90 (by rfl) rfl) ?_;simp only[ntmps90,mV,Nat.reduceAdd,Nat.reduceSub];refine F.sq ?_;refine F.bh ?_;refine F.ctl (fun _=>jW rfl rfl rfl rfl rfl rfl) ?_;walk_nrm;refine F.ak ?_;try walk_nrm
 refine F.cI ?_;iterate 2 (refine F.oq rfl rfl rfl (fun w hw=>by first|(simp[go_sem];done)|simp[go_sem,Instr.makeInterface,Instr.makeFunc, *]) (fun w hw=>by go_simp;first|exact⟨rfl,rfl⟩|exact rfl) ?_;try walk_nrm)
 refine F.re ?_;refine F.cf rfl ?_;refine F.sk ?_;refine F.nJ ?_
 apply F.opn rfl rfl (by decide)
 ·intro w hw
  exact uM (ad:=⟨bg,0,none⟩) (by kernel_rfl) (by simp[go_sem,UO w hw])
 ·intro w hw
  have jm:=UO w hw;go_simp
  first|exact⟨rfl,rfl⟩|exact rfl
 try walk_nrm
 refine F.enter rfl rfl (by decide) (fun _=>run_call_body rfl func91 (by rfl) (by rfl)) (fun _=>events_call_body rfl func91 (by rfl) (by rfl) _) ?_;walk_nrm;rw[enter_at _ func91 rfl];simp only[ntmps91,mV,Nat.reduceAdd,Nat.reduceSub];refine F.nJ ?_;refine F.ak ?_;try walk_nrm
 refine F.enter rfl rfl (by decide) (fun _=>run_call_body rfl func88 (by rfl) (by rfl)) (fun _=>events_call_body rfl func88 (by rfl) (by rfl) _) ?_;walk_nrm;refine EG A h5 _ _ ?_;clear F;have F:=o9 (P:=prog) 0;rw[Frame.finish_at];try walk_nrm
 refine F.re ?_;refine F.ctl (fun _=>stepG_end) ?_;refine F.aF rfl rfl func91 (resultsC_none (by rfl) _) ?_;rw[Frame.finish_at];try walk_nrm
 refine F.re ?_;refine F.ctl (fun _=>stepG_end) ?_;refine F.ctl (fun w=>stepG_leave_deferred rfl rfl func90 (resultsC_none (by rfl) _ w).1 (resultsC_none (by rfl) _ w).2 rfl) ?_;exact Jy _
end
section
open Go.Conc Go.RowKit Tryz
open Go.ConcN (sumTo sumTo_upd)
theorem mS{Ok:Addr→Bool→Prop}{w:World}{s:PS}{C:List ah}{es:List (Int×Value)}{b i0:Nat}{r0:ah}{j0:Ix}(h:Sat Ok w (pM s++C))(P:PV Ok s es)(hC:Flat C)(hi:nth (pM s++C) i0=some r0)(h1:i0≠1)(h3:i0≠3)(hj:r0.has j0)(ha:r0.ad j0=⟨b,0,none⟩):
 ∀r∈pM s++C,∀g e n,r.row=some (g,e,n)→b≠g:=by
 intro r hr g e n hg UO;subst UO;rcases List.mem_append.1 hr with hr|hr
 ·simp only[pM,List.mem_cons,List.not_mem_nil,or_false] at hr
  rcases hr with rfl|rfl|rfl|rfl|rfl|rfl|rfl
  ·cases hg
  ·obtain⟨q1,q2,_⟩:=h.row 1 _ rfl b e n hg
   have:=(h.sep 1 _ i0 r0 rfl hi rfl (0,0) j0 q1 hj (by rw[ha];have q3:s.eb.E=b:=q2;rw[←q3])).1;exact h1 this.symm
  ·cases hg
  ·obtain⟨q1,q2,_⟩:=h.row 3 _ rfl b e n hg
   have oM:s.ea=some ⟨b,0,none⟩:=by
    rcases P.jr.row with ⟨z,_⟩|⟨g,z1,_⟩
    ·rw[z] at hg;cases hg
    ·rw[z1] at hg;simp at hg;rw[z1,hg.1]
   have:=(h.sep 3 _ i0 r0 rfl hi rfl (0,0) j0 q1 hj (by
    rw[ha]
    show((s.ea.getD ⟨0,0,none⟩).add (0*5)).add 0=_
    rw[oM];show((⟨b,0,none⟩:Addr).add (0*5)).add 0=_;rw[add_add])).1
   exact h3 this.symm
  ·cases hg
  ·cases hg
  ·cases hg
 ·rw[cN.1 hC r hr] at hg;cases hg
theorem gQ.pre{C:List ah}{h:Value}{L:List iO}(x:gQ C h L)(A:List ah):gQ (C++A) h L:=by
 rcases x with x|⟨ca,cap,i,h1,h2⟩
 ·exact .inl x
 ·exact .inr ⟨ca,cap,i,h1,by rw[cz,if_pos (rZ _ _ _ h2)];exact h2⟩
theorem gQ.app{C:List ah}{h:Value}{L:List iO}(x:gQ C h L)(A:List ah):gQ (A++C) h L:=by
 rcases x with x|⟨ca,cap,i,h1,h2⟩
 ·exact .inl x
 ·exact .inr ⟨ca,cap,A.length+i,h1,by rw[cz,if_neg (by omega),Nat.add_sub_cancel_left];exact h2⟩
def Gd.qG(σ:Gd)(R:RN)(t:Nat)(X:List ah):Gd:={σ with L:=σ.pk R,Inb:=cu σ.Inb 0 none,tk:=cu σ.tk t CK,dn:=X++σ.dn}
section
variable{R:RN}{Post:Value→World→Prop}{σ:Gd}{s s':PS}{B B' t κ bg Λ:Nat}
theorem Gk(hl:σ.tk t=lM):om R (cu σ.tk t CK)=om R σ.tk:=by
 unfold om
 congr 1
 funext j
 by_cases e:j=t
 ·subst e;rw[bz,hl];rfl
 ·rw[cq _ _ e]
theorem v9(φ:TQ→Nat)(hφ:φ CK=φ lM)(ht:t<R.n)(hl:σ.tk t=lM):sumTo R.n (fun j=>φ (cu σ.tk t CK j))=sumTo R.n fun j=>φ (σ.tk j):=by
 have h:=sumTo_upd σ.tk CK φ ht;rw[hl,hφ] at h;exact Nat.add_right_cancel h
theorem OX(C:zD R σ s B t κ bg){X:List ah}(hX:Flat X)(hB:B≤B')(eC:gQ X (s.oh t) (s.l.ou t).b.ch):Co R (σ.qG R t X) s B':=by
 have c0:=C.co;have ym:∀j,j≠t→(σ.qG R t X).tk j=σ.tk j:=fun j hj=>cq _ _ hj
 have nt:∀j,(σ.qG R t X).tk j=none∨(∃q,(σ.qG R t X).tk j=iP q)→j≠t:=fun j h e=>by
  have h9:(σ.qG R t X).tk t=CK:=bz ..;rw[e,h9] at h;rcases h with h|⟨q,h⟩<;>cases h
 have f1:(σ.qG R t X).fr R=σ.fr R:=v9 u5 rfl C.tn C.lv;have f2:(σ.qG R t X).pk R=σ.pk R:=v9 xS rfl C.tn C.lv;refine⟨c0.hk,c0.Lz,Nat.le_trans c0.IB hB,Nat.lt_of_lt_of_le c0.AB hB,fun p hp=>?_,c0.sA,c0.sT,fun g y h1 h2=>?_,fun g e h1 h2=>?_,fun j q' hj dQ=>?_,fun j hj=>?_,c0.ql,fun t' JZ h'=>?_,c0.Ty,?_,?_,fun j hj he=>?_,hX.app c0.Tz,by obtain⟨Y,e⟩:=c0.dW;exact⟨X++Y,by show X++σ.dn=_;rw[e,List.append_assoc]⟩⟩
 ·have:=c0.st p hp;exact⟨this.1,this.2.1,Nat.lt_of_lt_of_le this.2.2 hB⟩
 ·have iq:(cu σ.Inb 0 none g).isSome:=h1
  by_cases e0:g=0
  ·subst e0;rw[bz] at iq;cases iq
  ·rw[cq _ _ e0] at iq;exact c0.MZ g y iq h2
 ·have iq:cu σ.Inb 0 none g=some e:=h1
  rw[cq _ _ h2] at iq;obtain⟨j,q',hj,dQ,gB⟩:=c0.zH g e iq h2;exact⟨j,q',hj,by rw[ym j (fun z=>by rw[z,C.lv] at dQ;cases dQ)];exact dQ,gB⟩
 ·have e:=nt j (.inr ⟨q',dQ⟩)
  rw[ym j e] at dQ;have P:=c0.pk j q' hj dQ;exact{P with zH:=by show cu σ.Inb 0 none q'.κ=_;rw[cq _ _ (by have:=P.κ0;omega)];exact P.zH}
 ·obtain⟨t',h1,h2,h3⟩:=c0.lP j hj
  have aN:t'≠t:=fun z=>by
   rw[z,C.lv] at h3;rcases h3 with ⟨_,h3⟩|⟨_,q,h3,_⟩<;>cases h3
  exact⟨t',h1,h2,by rw[ym t' aN];exact h3⟩
 ·have e:=nt t' h'
  rw[ym t' e] at h';exact c0.all t' JZ h'
 ·rw[f1,f2];exact c0.cnt
 ·rw[f1];exact c0.nb
 ·by_cases e:j=t
  ·subst e;exact(eC.pre σ.dn).pre R.S
  ·rw[ym j e] at he
   have:=(c0.ed j hj he).app X;rw[←List.append_assoc] at this;exact this
theorem Tm(H:xO R)(IH:∀m,m<Λ→vW R Post m)(p:TW R Post Λ t κ bg){m:Nat}{gE:Goroutine}{w:World}{X R':List ah}(hE:T8 R.k.A R.k.bS bg gE)(g1:Gu t p.s0 s)(hS:Sat (ku R p.σ) w (pM s++((X++R')++cO R p.σ)))(hP:PV (ku R p.σ) s (cy s))(hQ:QI s)(hF:Flat ((X++R')++cO R p.σ))(hB:p.B≤w.heap.size)(cL:Fin R.k.V R.Lf m none s.l)(hm:m≤p.sj)(eC:gQ X (s.oh t) (s.l.ou t).b.ch):xQ R Post p.σ κ gE w:=by
 have C:=p.OW;have c0:Co R p.σ s p.B:=C.co.gu C.lv g1 g1.wl;have Ct:zD R p.σ s p.B t κ bg:={C with co:=c0};have κ0:=C.κ0;have hκ:(κ==0)=false:=by simp;omega
 have Wt:=p.lt;have GG:=nM (cc:=R.cc) H.hA H.iA c0.n5;refine gG.assume GG fun hK Xt=>?_
 have OY:=OX (X:=X) Ct hF.left.left hB eC;have Sk:R.k.bS∈R.cc:=by simp[RN.cc]
 obtain⟨nh,cG⟩:=hE.dp (KD R.wI R.k.A R.cc p.σ.st) (fun W h=>h.2.2.1) (fun W h=>h.2.1.1 _ C.bg);have f2:(p.σ.qG R t X).pk R=p.σ.pk R:=v9 xS rfl C.tn C.lv
 have Cy:Sat (ku R (p.σ.qG R t X)) w (pM s++cO R (p.σ.qG R t X)):=by
  have h1:Sat (ku R p.σ) w (pM s++(X++cO R p.σ)):=hS.sub (List.Sublist.append_left (by rw[List.append_assoc];exact List.Sublist.append_left (List.sublist_append_right _ _) _) _)
  have e:cO R (p.σ.qG R t X)=om R p.σ.tk++(X++(p.σ.dn++R.S)):=by
   show om R (cu p.σ.tk t CK)++((X++p.σ.dn)++R.S)=_
   rw[Gk C.lv,List.append_assoc]
  rw[e];exact h1.perm ((List.perm_append_comm_assoc X (om R p.σ.tk) (p.σ.dn++R.S)).append_left _)
 have key:gG prog Post (KD R.wI R.k.A R.cc p.σ.st) (QD R.k.A) (jQ R.l) p.σ.St p.σ.Inb (iF R.k.A) (p.σ.pk R+1) p.σ.nb κ p.σ.ng 0 gE w:=by
  refine gG.HE (Q':=QD R.k.A) (j:=0) (c:=R.k.bS) (kk:=1) (s:=lX R) (v:=.agg #[]) (a₂:=gE) GG c0.D6
   {kc:=fun w k h=>wO H.ie Sk h
    jh:=by omega
    jn:=c0.Lz
    hj:=C.i0
    hk:=⟨_,rfl⟩
    run:=hE.run
    send:=⟨.tuple #[],#[],fun d m _=>by rw[hκ];exact hE.send _,by simp⟩
    ch:=hK.2.1.2 _ Sk} κ0 cG (fun k' g₂ eC hh Mc=>?_) (fun k' eC Mc=>Gb Mc (Kp.chan eC) (by simp))
  have kc:Kp [] w (w.setChan R.k.bS 0 #[] false (k'+1) (k'+1) false):=Kp.chan eC;have Fp:=OY.Mi (Post:=Post) H 0;refine hh 1 (by omega) (fun g=>xQ R Post (p.σ.qG R t X) 0 g _) (uf Fp _) (fun g' qY=>?_);refine IH m (by omega) (p.σ.qG R t X) s _ g' (by rw[qd];exact OY) (fun j hj=>?_) (bz p.σ.Inb 0 none) f2.symm (Cy.JR kc) hP hQ cL (fun j q' hj dQ=>?_) qY
  ·by_cases e:j=t
   ·subst e;show cu p.σ.tk j CK j≠lM;rw[bz];exact fun z=>by cases z
   ·show cu p.σ.tk t CK j≠lM;rw[cq _ _ e];exact C.Zj j hj e
  ·have h9:cu p.σ.tk t CK j=iP q':=dQ
   by_cases e:j=t
   ·rw[e,bz] at h9;cases h9
   ·rw[cq _ _ e] at h9
    exact(p.rs j q' hj h9).mono hm
 rw[←C.L] at key;exact key
theorem Has.rd{Ok:Addr→Bool→Prop}{w:World}{M:List ah}{b o:Nat}{v:Value}{vs:List Value}(h:Sat Ok w M)(hr:Has M (oR b o (v::vs) false)):Ok ⟨b,o,none⟩ false:=by
 obtain⟨_,i,hi⟩:=hr;exact(h.ok i _ hi (0,0) ⟨Nat.zero_lt_one,by simp⟩).1
theorem MX(H:xO R)(IH:∀m,m<Λ→vW R Post m)(p:TW R Post Λ t κ bg){m:Nat}{w:World}{R':List ah}{bf bw bt X:Nat}{v:Value}(C:Cn (eD R Post Λ t κ bg) R.k t p s w v R')(hf:Fin R.k.V R.Lf m (some (t,0,none)) s.l)(hm:m≤p.sj)(hS:∀r,Has R.S r→Has R' r)(aJ:Has R' (oR bf 0 [.func (.func 62) #[] #[ptr bw,ptr bt,ptr X]] false))(eZ:Has R' (oR bw 0 [.func (.func 37) #[] #[ptr R.bl,ptr R.bo,ptr (R.bi t)]] false))(yc:Has R' (oR bt 0 [ptr (R.k.T t)] false))(hX:Has R' (oR X 0 [ptr R.k.A] false)):xQ R Post p.σ κ (born prog (call89 bg bf)) w:=by
 have W:=OD (κ:=κ) (bg:=bg) (Post:=Post) H IH p.OW.tn;have ht:=p.OW.tn;have pr:∀{r},Has R' r→Has (pM s++(jw (R.k.T t) v false::(R'++(eD R Post Λ t κ bg).O p))) r:=fun h=>(h.pre _).cons.app _
 refine MW (W.f p) R.k.A (R.k.T t) R.k.bS bg bf bw bt X R.bl R.bo (R.bi t) w (Has.au C.au (pr aJ)) (Has.au C.au (pr eZ)) (Has.au C.au (pr yc)) (Has.rd C.au (pr aJ)) (Has.rd C.au (pr eZ)) (Has.rd C.au (pr yc)) fun fr cs hT=>?_
 refine MO W C hf hm (hS _ H.L6) (hS _ (H.aA t ht)) (hS _ H.Iz) fun m' p' s' w' v' X' b ho hl hc uR dr C' nP Iu eC=>?_
 have Pv:∀{r},Has R' r→Has (pM (s'.fin t b (.slice ho hl hc))++(jw (R.k.T t) v' false::((X'++R')++(eD R Post Λ t κ bg).O p'))) r:=fun h=>((h.app X').pre _).cons.app _
 obtain⟨_,VQ,G7⟩:=Pv (hS _ H.ch);have h4:=C'.au.val VQ _ G7 (0,1) ⟨Nat.zero_lt_one,(by decide:1<2)⟩;have o4:=(C'.au.ok VQ _ G7 (0,1) ⟨Nat.zero_lt_one,(by decide:1<2)⟩).1;have ZD:nth (pM (s'.fin t b (.slice ho hl hc))++(jw (R.k.T t) v' false::((X'++R')++(eD R Post Λ t κ bg).O p'))) 7=some (jw (R.k.T t) v' false):=rfl;have h7:=C'.au.val 7 _ ZD (0,3) ⟨Nat.zero_lt_one,(by decide:3<4)⟩;have o7:=(C'.au.ok 7 _ ZD (0,3) ⟨Nat.zero_lt_one,(by decide:3<4)⟩).2 rfl;refine hT _ _ w' _ (W.f p') (Has.au C'.au (Pv yc)) (Has.au C'.au (Pv hX)) h4 h7 o7.2 (Has.rd C'.au (Pv yc)) (Has.rd C'.au (Pv hX)) o4 o7.1 fun gE w4 hE k4=>?_
 obtain⟨_,VO,AR⟩:=Pv (hS _ ((H.jH (Nat.zero_lt_of_lt ht)).qb t ht));have hr:=mS (b:=R.k.T t) C'.au C'.pv (C'.fl.cons rfl) AR (fun z=>by subst z;have h9:=congrArg (fun o=>o.map ah.wr) AR;cases h9) (fun z=>by subst z;have h9:=congrArg (fun o=>o.map ah.wr) AR;cases h9) (j0:=(0,0)) ⟨Nat.zero_lt_one,(by decide:0<4)⟩ rfl;refine Tm H IH p' hE C'.gu ?_ C'.pv C'.qi C'.fl (Nat.le_trans C'.bd k4.size) nP dr ?_
 ·have h1:=C'.au.perm (List.perm_middle (a:=jw (R.k.T t) v' false) (l₁:=pM (s'.fin t b (.slice ho hl hc))) (l₂:=(X'++R')++(eD R Post Λ t κ bg).O p'))
  have h2:=(List.pairwise_cons.1 (sat_iff.1 h1).2).1;refine h1.tail.kp k4 (fun r lD j hj z=>?_) (fun r lD g e n hg x hx=>?_)
  ·simp only[List.mem_cons,List.not_mem_nil,or_false] at z
   exact h2 r lD (.inl rfl) (0,3) j ⟨Nat.zero_lt_one,(by decide:3<4)⟩ hj z.symm
  ·simp only[List.mem_cons,List.not_mem_nil,or_false] at hx
   subst hx;refine hr r ?_ g e n hg;rcases List.mem_append.1 lD with z|z
   ·exact List.mem_append_left _ z
   ·exact List.mem_append_right _ (List.mem_cons_of_mem _ z)
 ·show gQ X' (upd s'.oh t _ t) (upd s'.l.ou (s'.l.tk t).c.toNat _ t).b.ch
  rw[Iu];simp only[upd,Int.toNat_natCast,if_true];exact eC
end
end
end Go.Proofs.YtobagnjnbmgidaaGreatDoor
