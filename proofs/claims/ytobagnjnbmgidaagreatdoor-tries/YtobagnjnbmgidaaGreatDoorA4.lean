import Derived.Test.YtobagnjnbmgidaaGreatDoorA1
set_option linter.all false
namespace Go.Proofs.YtobagnjnbmgidaaGreatDoor
def FN(f:Nat→Nat):Nat→Nat
 |0=>0
 |n+1=>FN f n+f n
theorem rT(f:Nat→Nat)(t v:Nat):∀n,FN (upd f t v) n+(if t<n then f t else 0)=FN f n+(if t<n then v else 0)
 |0=>by simp[FN]
 |n+1=>by
  have h:=rT f t v n;simp only[FN]
  by_cases h1:t<n
  ·have:(upd f t v) n=f n:=by simp[upd];omega
   rw[this];simp only[h1,if_true,show t<n+1 by omega] at h ⊢;omega
  ·by_cases h2:t=n
   ·subst h2
    have:(upd f t v) t=v:=by simp[upd]
    rw[this];simp only[h1,if_false,show t<t+1 by omega,if_true] at h ⊢;omega
   ·have:(upd f t v) n=f n:=by simp[upd];omega
    rw[this];simp only[h1,if_false,show¬t<n+1 by omega] at h ⊢;omega
theorem zY(f:Nat→Nat)(t:Nat):∀n,t<n→f t≤FN f n
 |0,h=>by omega
 |n+1,h=>by
  simp only[FN]
  by_cases h1:t=n
  ·subst h1;omega
  ·have:=zY f t n (by omega);omega
theorem r7(ag:Nat→rB):∀i,∀k:Nat,cv ag i=k→k<i∧(ag k).o=false
 |0,k,h=>by simp[cv] at h
 |i+1,k,h=>by
  unfold cv at h
  split at h
  ·rename_i h1
   have:k=i:=by omega
   subst this;exact⟨by omega,h1.1⟩
  ·have:=r7 ag i k h;exact⟨by omega,this.2⟩
def nV(V:Ev0)(us:Int)(t k:Nat)(ob:Option Bk):Nat:=40*(V.nt t-us.toNat)+match ob with
 |none=>(V.nl-k)+20
 |some b=>k+(if b.k=1 then 1 else 30)
def Yp(m:Nat)(b:Bk):Prop:=b.ch.length+m<1000000∧((b.k=1∧b.ch=[])∨(b.k=2∧b.n=0∧b.ch≠[])∨(b.k=3∧b.ch=[]))
structure Lc(V:Ev0)(m:Nat)(L:LS)(t k:Nat)(ob:Option Bk):Prop where
 kl:k≤V.nl
 a:∀j,j<k→K3 V L t j
 b:∀b,ob=some b→Yp m b
def T9(V:Ev0)(m:Nat)(L:LS)(X:Int)(μ:Nat→Nat)(e:rB):Prop:=
 (0≤e.a∧e.a≤X)∧∃t:Nat,e.t=t∧t<V.nc∧((e.c=0∧nV V (L.us t) t 0 none<μ t)∨
   (e.c=1∧∃w:Nat,e.w=w∧w<L.wl∧(L.wt w).t=t∧(L.wt w).x=false∧(L.wt w).e=false∧
     (((L.wt w).l=V.nl∧∃y ch,(L.wt w).b.ch=y::ch∧Lc V m L t V.nl (some ⟨(L.wt w).b.k,(L.wt w).b.n,ch⟩)∧nV V (L.us t) t V.nl (some ⟨(L.wt w).b.k,(L.wt w).b.n,ch⟩)<μ t)∨
      (∃k:Nat,k<V.nl∧(V.ly k).k=1∧(L.wt w).l=k∧Lc V m L t (k+1) none∧nV V (L.us t) t (k+1) none<μ t))))
structure C5(V:Ev0)(m:Nat)(L:LS)(X:Int)(μ:Nat→Nat)(cur:Option Nat):Prop where
 tl:L.tl=V.nc
 el:L.el+3*m<1000000
 wl:L.wl+m<1000000
 al:L.al+m<1000000
 now:0≤L.now∧L.now≤X
 x:X+10000*m<1000000000000
 tk:∀t:Nat,t<V.nc→(L.tk t).c=t∧(L.tk t).f=-1∧(L.tk t).o=-1∧(L.tk t).x=false
 us:∀t:Nat,t<V.nc→0≤L.us t∧L.us t+m<1000000
 pd:∀i,i<L.al→(L.ag i).o=false→T9 V m L X μ (L.ag i)∧∀t:Nat,cur=some t→(L.ag i).t≠t
 ds:∀i,i<L.al→∀j,j<L.al→(L.ag i).o=false→(L.ag j).o=false→i≠j→(L.ag i).t≠(L.ag j).t
 sm:FN μ V.nc≤m
structure EQ(V:Ev0)(t:Nat)(L L':LS):Prop where
 tl:L'.tl=L.tl
 el:L'.el≤L.el+3
 wl:L.wl≤L'.wl∧L'.wl≤L.wl+1
 tk:∀j,j≠t→L'.tk j=L.tk j
 tt:(L'.tk t).c=(L.tk t).c∧(L'.tk t).f=(L.tk t).f∧(L'.tk t).o=(L.tk t).o∧(L'.tk t).x=(L.tk t).x
 us:∀j,j≠t→L'.us j=L.us j
 ut:L.us t≤L'.us t∧L'.us t≤L.us t+1
 wt:∀w,w<L.wl→(L.wt w).t≠t→L'.wt w=L.wt w
theorem Lc.mv{V:Ev0}{m m':Nat}{L L':LS}{t k:Nat}{ob:Option Bk}(h:Lc V m L t k ob)(hm:m'≤m)(ht:L'.tk t=L.tk t):Lc V m' L' t k ob:=
 ⟨h.kl,fun j hj=>by have:=h.a j hj;unfold K3 at*;rw[ht];exact this,fun b hb=>⟨by have:=(h.b b hb).1;omega,(h.b b hb).2⟩⟩
theorem T9.mv{V:Ev0}{m m':Nat}{L L':LS}{X X':Int}{μ μ':Nat→Nat}{e:rB}{t:Nat}(h:T9 V m L X μ e)(O:EQ V t L L')(hn:e.t≠t)(hm:m'≤m)(hX:X≤X')(hμ:∀j,j≠t→μ' j=μ j):T9 V m' L' X' μ' e:=by
 obtain⟨h1,u,h2,h3,h4⟩:=h;have hu:u≠t:=by rintro rfl;exact hn h2
 refine⟨⟨h1.1,by omega⟩,u,h2,h3,?_⟩;rw[O.us u hu,hμ u hu];rcases h4 with h4|⟨h4,w,h5,h6,h7,h8⟩
 ·exact .inl h4
 ·have hw:(L.wt w).t≠t:=by rw[h7];omega
  refine .inr ⟨h4,w,h5,by have:=O.wl;omega,?_⟩;rw[O.wt w h6 hw];refine⟨h7,h8.1,h8.2.1,?_⟩;rcases h8.2.2 with ⟨h9,y,ch,xu,yg,sD⟩|⟨k,h9,xu,yg,sD,za⟩
  ·exact .inl ⟨h9,y,ch,xu,yg.mv hm (O.tk u hu),sD⟩
  ·exact .inr ⟨k,h9,xu,yg,sD.mv hm (O.tk u hu),za⟩
theorem C5.mv{V:Ev0}{m:Nat}{L L':LS}{X:Int}{μ:Nat→Nat}{t v:Nat}{cur:Option Nat}(h:C5 V (m+1) L X μ (some t))(ht:t<V.nc)(O:EQ V t L L')(jJ:L'.now=L.now)(fy:L'.al=L.al)(oP:L'.ag=L.ag)(hv:v<μ t)(hc:∀u,cur=some u→u=t):C5 V m L' X (upd μ t v) cur where
 tl:=by rw[O.tl,h.tl]
 el:=by have:=O.el;have:=h.el;omega
 wl:=by have:=O.wl;have:=h.wl;omega
 al:=by have:=h.al;omega
 now:=by rw[jJ];exact h.now
 x:=by have:=h.x;omega
 tk:=fun j hj=>by
  by_cases e:j=t
  ·subst e;rw[O.tt.1,O.tt.2.1,O.tt.2.2.1,O.tt.2.2.2];exact h.tk j hj
  ·rw[O.tk j e];exact h.tk j hj
 us:=fun j hj=>by
  have:=h.us j hj
  by_cases e:j=t
  ·subst e;have:=O.ut;omega
  ·rw[O.us j e];omega
 pd:=fun i hi ho=>by
  rw[oP] at ho ⊢;rw[fy] at hi;have h1:=h.pd i hi ho;exact⟨h1.1.mv O (h1.2 t rfl) (by omega) (by omega) (fun j hj=>if_neg hj),fun u hu=>by rw[hc u hu];exact h1.2 t rfl⟩
 ds:=by rw[oP,fy];exact h.ds
 sm:=by have h1:=rT μ t v V.nc;have h2:=h.sm;simp only[ht,if_true] at h1;omega
theorem C5.pk{V:Ev0}{m:Nat}{L L':LS}{X:Int}{μ:Nat→Nat}{t v:Nat}{e:rB}(h:C5 V (m+1) L X μ (some t))(ht:t<V.nc)(O:EQ V t L L')(jJ:L'.now=L.now)(fy:L'.al=L.al+1)(oP:L'.ag=upd L.ag L.al e)(he:e.t=t)(hE:T9 V m L' (X+10000) (upd μ t v) e)(hv:v<μ t):C5 V m L' (X+10000) (upd μ t v) none where
 tl:=by rw[O.tl,h.tl]
 el:=by have:=O.el;have:=h.el;omega
 wl:=by have:=O.wl;have:=h.wl;omega
 al:=by have:=h.al;omega
 now:=by rw[jJ];have:=h.now;omega
 x:=by have:=h.x;omega
 tk:=fun j hj=>by
  by_cases e:j=t
  ·subst e;rw[O.tt.1,O.tt.2.1,O.tt.2.2.1,O.tt.2.2.2];exact h.tk j hj
  ·rw[O.tk j e];exact h.tk j hj
 us:=fun j hj=>by
  have:=h.us j hj
  by_cases e:j=t
  ·subst e;have:=O.ut;omega
  ·rw[O.us j e];omega
 pd:=fun i hi ho=>by
  rw[oP] at ho ⊢;rw[fy] at hi
  by_cases dJ:i=L.al
  ·subst dJ;simp only[upd,if_true] at ho ⊢;exact⟨hE,fun _ h=>by cases h⟩
  ·simp only[upd,if_neg dJ] at ho ⊢
   have h1:=h.pd i (by omega) ho;exact⟨h1.1.mv O (h1.2 t rfl) (by omega) (by omega) (fun j hj=>if_neg hj),fun u hu=>by cases hu⟩
 ds:=by
  rw[oP,fy];intro i hi j hj ho hp Iw
  by_cases dJ:i=L.al
  ·have bP:j≠L.al:=by omega
   simp only[upd,if_pos dJ,if_neg bP] at ho hp ⊢;have:=(h.pd j (by omega) hp).2 t rfl;rw[he];exact fun h=>this h.symm
  ·by_cases bP:j=L.al
   ·simp only[upd,if_neg dJ,if_pos bP] at ho hp ⊢
    have:=(h.pd i (by omega) ho).2 t rfl;rw[he];exact this
   ·simp only[upd,if_neg dJ,if_neg bP] at ho hp ⊢
    exact h.ds i (by omega) j (by omega) ho hp Iw
 sm:=by have h1:=rT μ t v V.nc;have h2:=h.sm;simp only[ht,if_true] at h1;omega
theorem C5.pop{V:Ev0}{m:Nat}{L L':LS}{X:Int}{μ:Nat→Nat}{t v i:Nat}(h:C5 V (m+1) L X μ none)(hi:i<L.al)(ho:(L.ag i).o=false)(het:(L.ag i).t=t)(ht:t<V.nc)(O:EQ V t L L')(jJ:L'.now=(L.ag i).a)(fy:L'.al=L.al)(oP:L'.ag=upd L.ag i {L.ag i with o:=true})(hv:v<μ t):C5 V m L' X (upd μ t v) (some t) where
 tl:=by rw[O.tl,h.tl]
 el:=by have:=O.el;have:=h.el;omega
 wl:=by have:=O.wl;have:=h.wl;omega
 al:=by have:=h.al;omega
 now:=by rw[jJ];exact(h.pd i hi ho).1.1
 x:=by have:=h.x;omega
 tk:=fun j hj=>by
  by_cases e:j=t
  ·subst e;rw[O.tt.1,O.tt.2.1,O.tt.2.2.1,O.tt.2.2.2];exact h.tk j hj
  ·rw[O.tk j e];exact h.tk j hj
 us:=fun j hj=>by
  have:=h.us j hj
  by_cases e:j=t
  ·subst e;have:=O.ut;omega
  ·rw[O.us j e];omega
 pd:=fun j hj hp=>by
  rw[oP] at hp ⊢;rw[fy] at hj
  by_cases AQ:j=i
  ·subst AQ;simp[upd] at hp
  ·simp only[upd,if_neg AQ] at hp ⊢
   have h1:=h.pd j hj hp;have h2:(L.ag j).t≠t:=by rw[←het];exact h.ds j hj i hi hp ho AQ
   exact⟨h1.1.mv O h2 (by omega) (by omega) (fun j hj=>if_neg hj),fun u hu=>by cases hu;exact h2⟩
 ds:=by
  rw[oP,fy];intro a ha b hb hp hq PW
  by_cases mA:a=i
  ·subst mA;simp[upd] at hp
  ·by_cases zK:b=i
   ·subst zK;simp[upd] at hq
   ·simp only[upd,if_neg mA,if_neg zK] at hp hq ⊢
    exact h.ds a ha b hb hp hq PW
 sm:=by have h1:=rT μ t v V.nc;have h2:=h.sm;simp only[ht,if_true] at h1;omega
theorem EQ.dy{V:Ev0}{t:Nat}{L:LS}:EQ V t L L:=⟨rfl,by omega,by omega,fun _ _=>rfl,⟨rfl,rfl,rfl,rfl⟩,fun _ _=>rfl,by omega,fun _ _ _=>rfl⟩
theorem C5.Ul{V:Ev0}{m:Nat}{L:LS}{X:Int}{μ:Nat→Nat}{cur:Option Nat}{t:Nat}(h:C5 V m L X μ cur)(ht:t<V.nc):Fc V t L where
 tl:=h.tl
 tn:=ht
 el:=by have:=h.el;omega
 wl:=by have:=h.wl;omega
 al:=by have:=h.al;omega
 now:=by have:=h.now;have:=h.x;omega
 tc:=(h.tk t ht).1
 tf:=(h.tk t ht).2.1
 to:=(h.tk t ht).2.2.1
 tx:=(h.tk t ht).2.2.2
 us:=by have:=h.us t ht;omega
theorem Qr(x:Mu)(m:Nat)(hm:m<900000):Yp m (dg x):=by
 unfold dg mE Yp
 split
 ·simp;omega
 split
 ·simp;omega
 split<;>simp<;>omega
theorem BL(y:Ff)(n:Int)(hd:0≤y.d∧y.d≤10000):aH y n≤10000:=by
 unfold aH;dsimp only;split<;>omega
theorem Ld{V:Ev0}(hV:vU V){c:Nat}(hc:c<V.nc)(n:Nat):0≤(aY V c n).t∧(aY V c n).t≤1000:=by
 unfold aY;split
 ·exact(hV.tr c hc n (by assumption)).2
 ·simp
theorem HZ{V:Ev0}{t:Nat}{u:Int}(hu:0≤u)(hk:V.nl≤6)(ob:Option Bk)(ho:ob=none→False)(hb:¬u.toNat<V.nt t→∀b,ob=some b→b.k=1):nV V (u+1) t V.nl ob+1<nV V u t V.nl none:=by
 cases ob with
 |none=>exact absurd rfl ho
 |some b=>
  have h1:(u+1).toNat=u.toNat+1:=by omega
  unfold nV;rw[h1]
  by_cases h:u.toNat<V.nt t
  ·dsimp only;split<;>omega
  ·have:=hb h b rfl
   dsimp only;rw[if_pos this];omega
theorem OH{V:Ev0}(hV:vU V):∀(m:Nat)(cur:Option (Nat×Nat×Option Bk))(L:LS)(X:Int)(μ:Nat→Nat),C5 V m L X μ (cur.map (·.1))→(∀t k ob,cur=some (t,k,ob)→t<V.nc∧Lc V m L t k ob∧nV V (L.us t) t k ob≤μ t)→∃Lf,Fin V Lf (m+1) cur L:=by
 intro m
 induction m with
 |zero=>
  intro cur L X μ I C
  match cur with
  |none=>
   refine⟨L,by have:=I.al;omega,?_⟩;rcases tE L.ag L.al with h|⟨k,h1,h2⟩
   ·rw[if_pos (by omega)]
   ·exfalso
    obtain⟨h3,u,h4,h5,h6⟩:=(I.pd k h1 (r7 _ _ _ h2).2).1;have h7:=zY μ u V.nc h5;have h8:=I.sm;rcases h6 with h6|⟨_,w,_,_,_,_,_,h6⟩
    ·omega
    ·rcases h6 with ⟨_,_,_,_,_,h6⟩|⟨_,_,_,_,_,h6⟩<;>omega
  |some (t,k,ob)=>
   exfalso
   obtain⟨h1,h2,h3⟩:=C t k ob rfl;have h7:=zY μ t V.nc h1;have h8:=I.sm
   have:0<nV V (L.us t) t k ob:=by
    unfold nV;cases ob
    ·dsimp only;omega
    ·dsimp only;split<;>omega
   omega
 |succ m ih=>
  intro cur L X μ I C
  match cur with
  |none=>
   have fy:L.al<1000000:=by have:=I.al;omega
   rcases tE L.ag L.al with h|⟨i,h1,h2⟩
   ·exact⟨L,fy,by rw[if_pos (by omega)]⟩
   ·have ho:=(r7 _ _ _ h2).2
    obtain⟨h3,t,h4,h5,h6⟩:=(I.pd i h1 ho).1;have hn:¬cv L.ag L.al<0:=by omega
    have ei:(cv L.ag L.al).toNat=i:=by omega
    have Op:EQ V t L (L.pop i):=⟨rfl,by simp[LS.pop],by simp[LS.pop],fun _ _=>rfl,⟨rfl,rfl,rfl,rfl⟩,fun _ _=>rfl,by simp[LS.pop];omega,fun _ _ _=>rfl⟩;rcases h6 with ⟨h6,h7⟩|⟨h6,w,h7,h8,h9,xu,yg,sD⟩
    ·have I':=I.pop (v:=nV V (L.us t) t 0 none) h1 ho h4 h5 Op rfl rfl rfl h7
     obtain⟨Lf,F⟩:=ih (some (t,0,none)) (L.pop i) X _ I' (by
      rintro _ _ _ ⟨⟩
      exact⟨h5,⟨Nat.zero_le _,fun j hj=>by omega,fun b hb=>by cases hb⟩,by simp[upd,LS.pop]⟩)
     refine⟨Lf,fy,?_⟩;rw[if_neg hn];dsimp only;rw[ei];exact⟨t,h4,I'.Ul h5,.inl ⟨h6,F⟩⟩
    ·have Ow:EQ V t L ((L.pop i).iZ t w):=⟨rfl,by simp[LS.pop,LS.iZ],by simp[LS.pop,LS.iZ],fun j hj=>if_neg hj,by simp[LS.pop,LS.iZ,upd],fun _ _=>rfl,by simp[LS.pop,LS.iZ];omega,fun x hx Cb=>by
      have:x≠w:=by rintro rfl;exact Cb h9
      exact if_neg this⟩
     rcases sD with ⟨za,y,ch,SX,P7,U2⟩|⟨k,za,SX,P7,U2,h17⟩
     ·have Os:EQ V t L (((L.pop i).iZ t w).say t (-1) 2 y.n):=⟨Ow.tl,by simp[LS.pop,LS.iZ,LS.say],Ow.wl,Ow.tk,Ow.tt,Ow.us,Ow.ut,Ow.wt⟩
      have I':=I.pop (v:=nV V (L.us t) t V.nl (some ⟨(L.wt w).b.k,(L.wt w).b.n,ch⟩)) h1 ho h4 h5 Os rfl rfl rfl U2
      obtain⟨Lf,F⟩:=ih (some (t,V.nl,some ⟨(L.wt w).b.k,(L.wt w).b.n,ch⟩)) _ X _ I' (by
       rintro _ _ _ ⟨⟩
       refine⟨h5,⟨P7.kl,fun j hj=>?_,fun b hb=>⟨by have:=(P7.b b hb).1;omega,(P7.b b hb).2⟩⟩,by simp[upd,LS.pop,LS.iZ,LS.say]⟩;have:=P7.a j hj
       simpa [K3,LS.pop,LS.iZ,LS.say,upd] using this)
      refine⟨Lf,fy,?_⟩;rw[if_neg hn];dsimp only;rw[ei];refine⟨t,h4,?_,.inr ⟨h6,w,h7,h8,h9,xu,yg,.inl ⟨za,y,ch,SX,F⟩⟩⟩;have s:=I'.Ul h5;have hE:=I.el
      exact⟨s.tl,h5,by have:(L.pop i).el=L.el:=rfl
                       omega,s.wl,s.al,s.now,(I.tk t h5).1,(I.tk t h5).2.1,(I.tk t h5).2.2.1,(I.tk t h5).2.2.2,s.us⟩
     ·have I':=I.pop (v:=nV V (L.us t) t (k+1) none) h1 ho h4 h5 Ow rfl rfl rfl h17
      obtain⟨Lf,F⟩:=ih (some (t,k+1,none)) _ X _ I' (by
       rintro _ _ _ ⟨⟩
       refine⟨h5,⟨U2.kl,fun j hj=>?_,fun b hb=>by cases hb⟩,by simp[upd,LS.pop,LS.iZ]⟩;have:=U2.a j hj
       simpa [K3,LS.pop,LS.iZ,upd] using this)
      refine⟨Lf,fy,?_⟩;rw[if_neg hn];dsimp only;rw[ei];refine⟨t,h4,?_,.inr ⟨h6,w,h7,h8,h9,xu,yg,.inr ⟨k,za,SX,P7,F⟩⟩⟩;have s:=I'.Ul h5;exact⟨s.tl,h5,s.el,s.wl,s.al,s.now,(I.tk t h5).1,(I.tk t h5).2.1,(I.tk t h5).2.2.1,(I.tk t h5).2.2.2,s.us⟩
  |some (t,k,ob)=>
   obtain⟨ht,hl,hμ⟩:=C t k ob rfl;have I:C5 V (m+1) L X μ (some t):=I;have hs:=I.Ul ht;have hc:(L.tk t).c.toNat=t:=by rw[hs.tc];omega
   have go:∀(L':LS)(k':Nat)(Iq:Option Bk),L.step V t k ob=(L',some (k',Iq))→EQ V t L L'→L'.now=L.now→L'.al=L.al→L'.ag=L.ag→Lc V m L' t k' Iq→nV V (L'.us t) t k' Iq<nV V (L.us t) t k ob→∃Lf,Fin V Lf (m+1+1) (some (t,k,ob)) L:=by
    intro L' k' Iq e O n1 n2 n3 l c
    obtain⟨Lf,F⟩:=ih (some (t,k',Iq)) L' X _ (I.mv (v:=nV V (L'.us t) t k' Iq) (cur:=some t) ht O n1 n2 n3 (by omega) (fun u h=>by cases h;rfl)) (by
     rintro _ _ _ ⟨⟩
     exact⟨ht,l,by simp[upd]⟩)
    refine⟨Lf,hs,hl.kl,fun b hb=>⟨⟨by have:=(hl.b b hb).1;omega,(hl.b b hb).2⟩,fun h0=>hl.a (k-1) (by omega)⟩,?_⟩;rw[e];exact F
   have stop:∀(L':LS)(μ':Nat→Nat)(X':Int),L.step V t k ob=(L',none)→C5 V m L' X' μ' none→∃Lf,Fin V Lf (m+1+1) (some (t,k,ob)) L:=by
    intro L' μ' X' e I';obtain⟨Lf,F⟩:=ih none L' X' μ' I' (by rintro _ _ _ ⟨⟩);refine⟨Lf,hs,hl.kl,fun b hb=>⟨⟨by have:=(hl.b b hb).1;omega,(hl.b b hb).2⟩,fun h0=>hl.a (k-1) (by omega)⟩,?_⟩;rw[e];exact F
   have hm:m<900000:=by have:=I.el;omega
   have EV:=I.us t ht
   match ob with
   |none=>
    by_cases hk:k=V.nl
    ·subst hk
     have hx:=Ld hV ht (L.us t).toNat;have hb:=Qr (aY V t (L.us t).toNat) m hm
     have zJ:∀b:Bk,b=dg (aY V t (L.us t).toNat)→nV V (L.us t+1) t V.nl (some b)+1<nV V (L.us t) t V.nl none:=fun b eb=>
      HZ EV.1 hV.nl _ (fun h=>by cases h) (fun hn b' e=>by cases e;rw[eb];unfold aY;rw[if_neg hn];rfl)
     by_cases h0:(aY V t (L.us t).toNat).t=0
     ·refine go (((({L with us:=upd L.us t (L.us t+1)}:LS).say t (-1) 1 (L.us t))).say t (-1) 2 (L.us t)) V.nl (some (dg (aY V t (L.us t).toNat))) ?_ ⟨rfl,?_,?_,fun _ _=>rfl,⟨rfl,rfl,rfl,rfl⟩,fun j hj=>if_neg hj,?_,fun _ _ _=>rfl⟩ rfl rfl rfl ⟨Nat.le_refl _,fun j hj=>hl.a j hj,fun b e=>by cases e;exact hb⟩ ?_
      ·simp only[LS.step,hc,if_true,h0]
      ·simp[LS.say]
      ·simp[LS.say]
      ·simp[LS.say,upd];omega
      ·have:=zJ _ rfl
       have e:((((({L with us:=upd L.us t (L.us t+1)}:LS).say t (-1) 1 (L.us t))).say t (-1) 2 (L.us t)).us t)=L.us t+1:=by simp[LS.say,upd]
       rw[e];omega
     ·have gT:¬(aY V t (L.us t).toNat).t=0:=h0
      have aap:=zJ _ rfl;refine stop {(({L with us:=upd L.us t (L.us t+1)}:LS).say t (-1) 1 (L.us t)).wait t V.nl (aY V t (L.us t).toNat).t with wt:=upd ((({L with us:=upd L.us t (L.us t+1)}:LS).say t (-1) 1 (L.us t)).wait t V.nl (aY V t (L.us t).toNat).t).wt L.wl {((({L with us:=upd L.us t (L.us t+1)}:LS).say t (-1) 1 (L.us t)).wait t V.nl (aY V t (L.us t).toNat).t).wt L.wl with b:=⟨(dg (aY V t (L.us t).toNat)).k,(dg (aY V t (L.us t).toNat)).n,⟨0,0,L.us t⟩::(dg (aY V t (L.us t).toNat)).ch⟩}} (upd μ t (nV V (L.us t+1) t V.nl (some (dg (aY V t (L.us t).toNat)))+1)) (X+10000) (by simp only[LS.step,hc,if_true,if_neg gT];rfl) (I.pk (e:=⟨L.now+(aY V t (L.us t).toNat).t,t,L.wl,1,false⟩) ht ⟨rfl,?_,?_,?_,?_,fun j hj=>if_neg hj,?_,?_⟩ rfl rfl rfl rfl ⟨⟨?_,?_⟩,t,rfl,ht,.inr ⟨rfl,L.wl,rfl,?_,?_,?_,?_,.inl ⟨?_,⟨0,0,L.us t⟩,(dg (aY V t (L.us t).toNat)).ch,?_,⟨Nat.le_refl _,fun j hj=>?_,fun b e=>?_⟩,?_⟩⟩⟩ ?_)
      ·simp[LS.say,LS.wait,LS.c8,LS.put]
      ·simp[LS.say,LS.wait,LS.c8,LS.put]
      ·exact fun j hj=>if_neg hj
      ·simp[LS.say,LS.wait,LS.c8,LS.put,upd]
      ·simp[LS.say,LS.wait,LS.c8,LS.put,upd];omega
      ·intro w hw eY
       have:w≠L.wl:=by omega
       simp[LS.say,LS.wait,LS.c8,LS.put,upd,this]
      ·have:=I.now;dsimp only;omega
      ·have:=I.now;dsimp only;omega
      ·simp[LS.say,LS.wait,LS.c8,LS.put]
      ·simp[LS.say,LS.wait,LS.c8,LS.put,upd]
      ·simp[LS.say,LS.wait,LS.c8,LS.put,upd]
      ·simp[LS.say,LS.wait,LS.c8,LS.put,upd]
      ·simp[LS.say,LS.wait,LS.c8,LS.put,upd]
      ·simp[LS.say,LS.wait,LS.c8,LS.put,upd]
      ·have:=hl.a j hj
       simpa [K3,LS.say,LS.wait,LS.c8,LS.put,upd] using this
      ·cases e;simpa [LS.say,LS.wait,LS.c8,LS.put,upd] using hb
      ·simp[LS.say,LS.wait,LS.c8,LS.put,upd]
      ·omega
    ·have gB:k<V.nl:=by have:=hl.kl;omega
     rcases hV.kd k gB with h1|h1
     ·have hr:=hV.rt k gB h1
      refine go {L with tk:=upd L.tk t {L.tk t with a:=upd (L.tk t).a k 1}} (k+1) none (by simp only[LS.step,if_neg hk,if_pos h1]) ⟨rfl,by dsimp only;omega,by dsimp only;omega,fun j hj=>if_neg hj,by simp[upd],fun _ _=>rfl,by dsimp only;omega,fun _ _ _=>rfl⟩ rfl rfl rfl ⟨by omega,fun j hj=>?_,fun b e=>by cases e⟩ (by unfold nV;dsimp only;omega)
      by_cases e:j=k
      ·subst e;intro _;simp[upd];exact hr.1.1
      ·have:=hl.a j (by omega)
       simpa [K3,upd,e] using this
     ·refine go L (k+1) none (by simp only[LS.step,if_neg hk,if_neg (show¬(V.ly k).k=1 by omega)]) EQ.dy rfl rfl rfl ⟨by omega,fun j hj=>?_,fun b e=>by cases e⟩ (by unfold nV;dsimp only;omega)
      by_cases e:j=k
      ·subst e;intro h2;omega
      ·exact hl.a j (by omega)
   |some b=>
    have hb:=hl.b b rfl;have hcp:0<nV V (L.us t) t k (some b):=by unfold nV;dsimp only;split<;>omega
    by_cases hk:k=0
    ·subst hk
     refine stop (L.end_ t b) (upd μ t 0) X (by simp only[LS.step,if_true]) (I.mv (v:=0) ht ⟨rfl,by simp[LS.end_],by simp[LS.end_],fun j hj=>if_neg hj,by simp[LS.end_,upd],fun _ _=>rfl,by simp[LS.end_];omega,fun _ _ _=>rfl⟩ rfl rfl rfl (Nat.lt_of_lt_of_le hcp hμ) (fun u h=>by cases h))
    ·obtain⟨j,rfl⟩:∃j,k=j+1:=⟨k-1,by omega⟩
     have bP:j<V.nl:=by have:=hl.kl;omega
     have back:∀b':Bk,(b.k=1→b'.k=1)→(b.k≠1→b'.k≠1)→nV V (L.us t) t j (some b')<nV V (L.us t) t (j+1) (some b):=fun b' e1 e2=>by
      unfold nV;dsimp only
      by_cases h:b.k=1
      ·rw[if_pos h,if_pos (e1 h)];omega
      ·rw[if_neg h,if_neg (e2 h)];omega
     rcases hV.kd j bP with h1|h1
     ·have hr:=hV.rt j bP h1
      by_cases hq:b.k≠2∨cH b 2=true∨cH b 5=true
      ·exact go L j (some b) (by simp only[LS.step,Nat.add_eq_zero_iff,Nat.succ_ne_zero,and_false,if_false,Nat.add_sub_cancel,if_pos h1,if_pos hq]) EQ.dy rfl rfl rfl ⟨by omega,fun i hi=>hl.a i (by omega),fun b' e=>by cases e;exact⟨by have:=hb.1;omega,hb.2⟩⟩ (back b id id)
      ·have fK:b.k=2:=Decidable.byContradiction fun h=>hq (.inl h)
       have uw:b.n=0∧b.ch≠[]:=by
        rcases hb.2 with h|h|h
        ·omega
        ·exact h.2
        ·omega
       by_cases hn:(L.tk t).a j=(V.ly j).a
       ·exact go (L.say t j 4 0) j (some ⟨2,0,⟨7,j,0⟩::b.ch⟩) (by simp only[LS.step,Nat.add_eq_zero_iff,Nat.succ_ne_zero,and_false,if_false,Nat.add_sub_cancel,if_pos h1,if_neg hq,if_pos hn]) ⟨rfl,by simp[LS.say],by simp[LS.say],fun _ _=>rfl,⟨rfl,rfl,rfl,rfl⟩,fun _ _=>rfl,by simp[LS.say];omega,fun _ _ _=>rfl⟩ rfl rfl rfl ⟨by omega,fun i hi=>hl.a i (by omega),fun b' e=>by cases e;exact⟨by have:=hb.1;simp only[List.length_cons];omega,.inr (.inl ⟨rfl,rfl,by simp⟩)⟩⟩ (back _ (fun h=>by omega) (fun _=>by simp))
       ·have ha:=hl.a j (by omega) h1
        have hp:=BL (V.ly j) ((L.tk t).a j) hr.2.2.2
        have qv:nV V (L.us t) t (j+1) none+1<nV V (L.us t) t (j+1) (some b):=by
         have:=hV.nl;unfold nV;dsimp only;rw[if_neg (by omega)];omega
        have nD:∀(L':LS),(L'.tk t).a=upd (L.tk t).a j ((L.tk t).a j+1)→∀i,i<j+1→K3 V L' t i:=fun L' e i hi h=>by
         rw[e]
         by_cases e:i=j
         ·subst e;simp[upd];omega
         ·have:=hl.a i hi h;simpa [upd,e] using this
        by_cases N3:aH (V.ly j) ((L.tk t).a j)>0
        ·refine stop (LS.wait {L.say t j 3 (aH (V.ly j) ((L.tk t).a j)) with tk:=upd L.tk t {L.tk t with a:=upd (L.tk t).a j ((L.tk t).a j+1)}} t j (aH (V.ly j) ((L.tk t).a j))) (upd μ t (nV V (L.us t) t (j+1) none+1)) (X+10000) (by simp only[LS.step,Nat.add_eq_zero_iff,Nat.succ_ne_zero,and_false,if_false,Nat.add_sub_cancel,if_pos h1,if_neg hq,if_neg hn,if_pos N3];rfl) (I.pk (e:=⟨L.now+aH (V.ly j) ((L.tk t).a j),t,L.wl,1,false⟩) ht ⟨rfl,?_,?_,?_,?_,fun _ _=>rfl,?_,?_⟩ rfl rfl rfl rfl ⟨⟨?_,?_⟩,t,rfl,ht,.inr ⟨rfl,L.wl,rfl,?_,?_,?_,?_,.inr ⟨j,bP,h1,?_,⟨by omega,nD _ ?_,fun b e=>by cases e⟩,?_⟩⟩⟩ ?_)
         ·simp[LS.say,LS.wait,LS.c8,LS.put]
         ·simp[LS.say,LS.wait,LS.c8,LS.put]
         ·intro i hi;simp[LS.say,LS.wait,LS.c8,LS.put,upd,hi]
         ·simp[LS.say,LS.wait,LS.c8,LS.put,upd]
         ·simp[LS.say,LS.wait,LS.c8,LS.put,upd];omega
         ·intro w hw eY
          have:w≠L.wl:=by omega
          simp[LS.say,LS.wait,LS.c8,LS.put,upd,this]
         ·have:=I.now;dsimp only;omega
         ·have:=I.now;dsimp only;omega
         ·simp[LS.say,LS.wait,LS.c8,LS.put]
         ·simp[LS.say,LS.wait,LS.c8,LS.put,upd]
         ·simp[LS.say,LS.wait,LS.c8,LS.put,upd]
         ·simp[LS.say,LS.wait,LS.c8,LS.put,upd]
         ·simp[LS.say,LS.wait,LS.c8,LS.put,upd]
         ·simp[LS.say,LS.wait,LS.c8,LS.put,upd]
         ·simp[LS.say,LS.wait,LS.c8,LS.put,upd]
         ·omega
        ·refine go {L.say t j 3 (aH (V.ly j) ((L.tk t).a j)) with tk:=upd L.tk t {L.tk t with a:=upd (L.tk t).a j ((L.tk t).a j+1)}} (j+1) none (by simp only[LS.step,Nat.add_eq_zero_iff,Nat.succ_ne_zero,and_false,if_false,Nat.add_sub_cancel,if_pos h1,if_neg hq,if_neg hn,if_neg N3];rfl) ⟨rfl,by simp[LS.say],by simp[LS.say],fun i hi=>if_neg hi,by simp[LS.say,upd],fun _ _=>rfl,by simp[LS.say];omega,fun _ _ _=>rfl⟩ rfl rfl rfl ⟨by omega,nD _ (by simp[LS.say,upd]),fun b' e=>by cases e⟩ (by simp only[LS.say];omega)
     ·have iq:¬(V.ly j).k=1:=by omega
      by_cases uw:b.k=3
      ·exact go (L.say t j 5 b.n) j (some (mE 6 j b.n)) (by simp only[LS.step,Nat.add_eq_zero_iff,Nat.succ_ne_zero,and_false,if_false,Nat.add_sub_cancel,if_neg iq,if_pos uw]) ⟨rfl,by simp[LS.say],by simp[LS.say],fun _ _=>rfl,⟨rfl,rfl,rfl,rfl⟩,fun _ _=>rfl,by simp[LS.say];omega,fun _ _ _=>rfl⟩ rfl rfl rfl ⟨by omega,fun i hi=>hl.a i (by omega),fun b' e=>by cases e;exact⟨by simp[mE];omega,.inr (.inl ⟨rfl,rfl,by simp[mE]⟩)⟩⟩ (back _ (fun h=>by omega) (fun _=>by simp[mE]))
      ·exact go L j (some b) (by simp only[LS.step,Nat.add_eq_zero_iff,Nat.succ_ne_zero,and_false,if_false,Nat.add_sub_cancel,if_neg iq,if_neg uw]) EQ.dy rfl rfl rfl ⟨by omega,fun i hi=>hl.a i (by omega),fun b' e=>by cases e;exact⟨by have:=hb.1;omega,hb.2⟩⟩ (back b id id)
theorem Li(f:Nat→Nat)(c:Nat):∀n,(∀t,t<n→f t≤c)→FN f n≤n*c
 |0,_=>by simp[FN]
 |n+1,h=>by
  have h1:=Li f c n fun t ht=>h t (by omega)
  have h2:=h n (by omega);have:(n+1)*c=n*c+c:=Nat.succ_mul n c;simp only[FN];omega
theorem Tc{V:Ev0}(hV:vU V){L:LS}(now:L.now=0)(al:L.al=V.nc)(ag:∀i,i<V.nc→(L.ag i).a=V.st i∧(L.ag i).t=(i:Int)∧(L.ag i).c=0∧(L.ag i).o=false)(us:∀i,L.us i=0)(el:L.el=0)(wl:L.wl=0)(tl:L.tl=V.nc)(tk:∀t:Nat,t<V.nc→(L.tk t).c=t∧(L.tk t).f=-1∧(L.tk t).o=-1∧(L.tk t).x=false):∃m Lf,Fin V Lf m none L:=by
 have hn:=hV.nc
 obtain⟨Lf,F⟩:=OH hV 5000 none L 1000 (fun t=>nV V 0 t 0 none+1)
  {tl:=tl,el:=by omega,wl:=by omega,al:=by omega,now:=by omega,x:=by omega,tk:=tk,
   us:=fun t _=>by rw[us];omega,
   pd:=fun i hi ho=>by
    have h1:=ag i (by omega);have h2:=hV.st i (by omega);refine⟨⟨by omega,i,h1.2.1,by omega,.inl ⟨h1.2.2.1,by rw[us];dsimp only;omega⟩⟩,fun t h=>by cases h⟩
   ds:=fun i hi j hj _ _ Iw=>by
    rw[(ag i (by omega)).2.1,(ag j (by omega)).2.1];omega
   sm:=by
    have:=Li (fun t=>nV V 0 t 0 none+1) 510 V.nc (fun t ht=>by
     have:=hV.nt t ht;have:=hV.nl;simp only[nV];omega)
    have:V.nc*510≤9*510:=Nat.mul_le_mul_right _ hn;omega} (by rintro _ _ _ ⟨⟩)
 exact⟨_,Lf,F⟩
def Jj(V:Ev0)(t:Nat)(L:LS):Bool:=decide (L.tl=V.nc)&&decide (t<V.nc)&&decide (L.el<1000000)&&decide (L.wl<1000000)&&decide (L.al<1000000)&&decide (0≤L.now)&&decide (L.now<1000000000000)&&decide ((L.tk t).c=t)&&decide ((L.tk t).f=-1)&&decide ((L.tk t).o=-1)&&!(L.tk t).x&&decide (0≤L.us t)&&decide (L.us t<1000000)
theorem Bz{V:Ev0}{t:Nat}{L:LS}(h:Jj V t L=true):Fc V t L:=by
 simp only[Jj,Bool.and_eq_true,decide_eq_true_eq,Bool.not_eq_true'] at h;obtain⟨⟨⟨⟨⟨⟨⟨⟨⟨⟨⟨⟨h1,h2⟩,h3⟩,h4⟩,h5⟩,h6⟩,h7⟩,h8⟩,h9⟩,xu⟩,yg⟩,sD⟩,za⟩:=h;exact⟨h1,h2,h3,h4,h5,⟨h6,h7⟩,h8,h9,xu,yg,⟨sD,za⟩⟩
def O3(b:Bk):Bool:=decide (b.ch.length<1000000)&&((decide (b.k=1)&&b.ch.isEmpty)||(decide (b.k=2)&&decide (b.n=0)&&!b.ch.isEmpty)||(decide (b.k=3)&&b.ch.isEmpty))
theorem KI{b:Bk}(h:O3 b=true):Ud b:=by
 simp only[O3,Bool.and_eq_true,Bool.or_eq_true,decide_eq_true_eq,Bool.not_eq_true',List.isEmpty_iff] at h;refine⟨h.1,?_⟩;rcases h.2 with (z|z)|z
 ·exact .inl z
 ·exact .inr (.inl ⟨z.1.1,z.1.2,fun e=>by rw[e] at z;cases z.2⟩)
 ·exact .inr (.inr z)
def O9(V:Ev0)(L:LS)(t k:Nat):Bool:=!decide ((V.ly k).k=1)||(decide (1≤(L.tk t).a k)&&decide ((L.tk t).a k≤(V.ly k).a))
theorem KT{V:Ev0}{L:LS}{t k:Nat}(h:O9 V L t k=true):K3 V L t k:=fun hk=>by
 simp only[O9,Bool.or_eq_true,Bool.and_eq_true,Bool.not_eq_true',decide_eq_true_eq,decide_eq_false_iff_not] at h;rcases h with z|z
 ·exact absurd hk z
 ·exact z
def pN(V:Ev0):Nat→Option (Nat×Nat×Option Bk)→LS→Option LS
 |0,_,_=>none
 |m+1,some (t,k,ob),L=>if Jj V t L=true∧k≤V.nl∧(∀b,ob=some b→O3 b=true∧(0<k→O9 V L t (k-1)=true)) then(match L.step V t k ob with
  |(L',none)=>pN V m none L'
  |(L',some (k',Iq))=>pN V m (some (t,k',Iq)) L') else none
 |m+1,none,L=>if L.al<1000000 then(if cv L.ag L.al<0 then some L else
  let i:=(cv L.ag L.al).toNat
  let e:=L.ag i
  let t:=e.t.toNat
  if e.t=t∧Jj V t (L.pop i)=true then
   (if e.c=0 then pN V m (some (t,0,none)) (L.pop i)
    else if e.c=1 then
     let w:=e.w.toNat
     if e.w=w∧w<L.wl∧(L.wt w).t=t∧(L.wt w).x=false∧(L.wt w).e=false then
      (if(L.wt w).l=V.nl then(match (L.wt w).b.ch with
        |[]=>none
        |y::ch=>pN V m (some (t,V.nl,some ⟨(L.wt w).b.k,(L.wt w).b.n,ch⟩)) (((L.pop i).iZ t w).say t (-1) 2 y.n))
       else
        let k:=(L.wt w).l.toNat
        if k<V.nl∧(V.ly k).k=1∧(L.wt w).l=k then pN V m (some (t,k+1,none)) ((L.pop i).iZ t w) else none)
     else none
    else none)
  else none) else none
theorem lm{V:Ev0}{Lf:LS}:∀(m:Nat)(cur:Option (Nat×Nat×Option Bk))(L:LS),pN V m cur L=some Lf→Fin V Lf m cur L
 |0,_,_,h=>by cases h
 |m+1,some (t,k,ob),L,h=>by
  unfold pN at h
  split at h
  ·rename_i hc
   refine⟨Bz hc.1,hc.2.1,fun b hb=>⟨KI (hc.2.2 b hb).1,fun h0=>KT ((hc.2.2 b hb).2 h0)⟩,?_⟩;cases hs:L.step V t k ob with
   |mk L' o=>
    rw[hs] at h;cases o with
    |none=>exact lm m none L' h
    |some p=>exact lm m (some (t,p.1,p.2)) L' h
  ·cases h
 |m+1,none,L,h=>by
  unfold pN at h
  split at h
  ·rename_i fy
   refine⟨fy,?_⟩
   split at h
   ·rename_i hn
    rw[if_pos hn];exact Option.some.inj h
   ·rename_i hn
    rw[if_neg hn]
    simp only at h ⊢
    split at h
    ·rename_i hc
     refine⟨_,hc.1,Bz hc.2,?_⟩
     split at h
     ·rename_i h0
      exact .inl ⟨h0,lm m _ _ h⟩
     ·split at h
      ·rename_i h1
       split at h
       ·rename_i hw
        refine .inr ⟨h1,_,hw.1,hw.2.1,hw.2.2.1,hw.2.2.2.1,hw.2.2.2.2,?_⟩
        split at h
        ·rename_i hl
         cases eC:(L.wt (L.ag (cv L.ag L.al).toNat).w.toNat).b.ch with
         |nil=>rw[eC] at h;cases h
         |cons y ch=>rw[eC] at h;exact .inl ⟨hl,y,ch,rfl,lm m _ _ h⟩
        ·split at h
         ·rename_i hk
          exact .inr ⟨_,hk.1,hk.2.1,hk.2.2,lm m _ _ h⟩
         ·cases h
       ·cases h
      ·cases h
    ·cases h
  ·cases h
end Go.Proofs.YtobagnjnbmgidaaGreatDoor
