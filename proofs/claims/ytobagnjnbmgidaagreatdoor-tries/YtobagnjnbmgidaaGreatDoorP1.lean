import Derived.Test.YtobagnjnbmgidaaGreatDoorA1
import Derived.Test.YtobagnjnbmgidaaGreatDoorN6
set_option linter.all false
set_option maxHeartbeats 8000000
set_option maxRecDepth 100000
namespace Go.Proofs.YtobagnjnbmgidaaGreatDoor
section
open Go.Conc Go.RowKit Tryz
abbrev oR(b o:Nat)(vs:List Value)(wr:Bool):ah:=⟨fun j=>⟨b,o+j.2,none⟩,vs,fun _ _=>undef,1,vs.length,wr,none⟩
structure qP where
 E:Nat
 n:Nat
 c:Nat
 f:Nat→Value
abbrev eR(b:qP):ah:=⟨fun j=>⟨b.E,j.2,none⟩,[],fun _ j=>b.f j,b.c,b.n,true,match b.c with|0=>none|_+1=>some (b.E,128,b.n)⟩
def Has(C:List ah)(r:ah):Prop:=r.wr=false∧∃i,nth C i=some r
theorem Has.cons{C:List ah}{r x:ah}(h:Has C r):Has (x::C) r:=by
 obtain⟨h1,i,h2⟩:=h;exact⟨h1,i+1,h2⟩
theorem Has.app{C:List ah}{r:ah}(h:Has C r):∀A:List ah,Has (A++C) r
 |[]=>h
 |_::A=>(h.app A).cons
theorem Has.pre{C:List ah}{r:ah}(h:Has C r)(A:List ah):Has (C++A) r:=by
 obtain⟨h1,i,h2⟩:=h;exact⟨h1,i,by rw[cz,if_pos (rZ _ _ _ h2)];exact h2⟩
theorem Sat.get{Ok:Addr→Bool→Prop}{w:World}{M:List ah}{r:ah}(h:Sat Ok w M)(hr:Has M r):Sat Ok w (r::M):=by
 obtain⟨h1,i,h2⟩:=hr;exact h.dup h2 h1
structure PK where
 A:Nat
 J:Nat
 HD:Nat
 O:Nat
 sc:Nat→Value
 V:Ev0
 lb:Nat→Nat
 T:Nat→Nat
 aX:Nat→Nat
 ca:Addr
 cc:Nat
 eH:Nat→Option Addr
 fF:Nat→Nat
 bU:Nat
 bS:Nat
structure PS where
 k:PK
 en:Value
 eb:qP
 ea:Option Addr
 ec:Nat
 vv:Nat→List Value
 oh:Nat→Value
 q:List Nat
 wb:Nat→Nat
 l:LS
def pM(s:PS):List ah:=[bR s.k.A [i6 s.l.now,s.en],eR s.eb,bR s.k.J [.slice s.ea s.l.el s.ec],vR s.ea 5 (fun j=>zo (s.l.ev j)) s.l.el s.ec 55,sR s.ea 5 s.vv s.l.el s.ec,
 fR ⟨s.k.HD,0,none⟩ 1 (fun j=>[i6 (s.l.us j)]) s.k.V.nc true,fR ⟨s.k.O,0,none⟩ 4 (fun j=>zF (s.l.ou j,s.oh j)) s.k.V.nc true]
abbrev Fb(b:Nat)(wi:Value)(num:Int)(J:Nat):ah:=oR b 0 [wi,i6 num,ptr J] false
abbrev Qs(T A:Nat)(i:Nat)(aX:Nat):ah:=oR T 0 [ptr A,i6 i,i6 i,.chan (some aX)] false
abbrev jw(T:Nat)(v:Value)(e:Bool):ah:=oR T 4 [v,.slice none 0 0,.bool false,.bool e] true
section
variable{main:Bool}{B:Nat}{Ok:Addr→Bool→Prop}{Ψ:Goroutine→World→Prop}
abbrev PS.jN(s:PS)(g' aj:Nat)(bA:Nat→List Value)(L:LS):PS:={s with ea:=some ⟨g',0,none⟩,ec:=aj,vv:=bA,l:=L}
theorem MU(F:aC prog main (DX Ok) Ψ)(hB:HB B Ok){cf:Frame}{cs:List Frame}{w:World}{s:PS}{C:List ah}{lb T aX:Nat}{wi:Value}{num:Int}{t:Nat}{q n:Int}(hS:Sat Ok w (pM s++C))(h1:Has C (Fb lb wi num s.k.J))(h2:Has C (Qs T s.k.A t aX))(hv:Vc Ok s.ea s.l.el s.ec)(ey:B≤w.heap.size)(hlen:s.l.el<1000000)(hc:(s.l.tk t).c=t)(K:∀g' aj bA w',Sat Ok w' (pM (s.jN g' aj bA (s.l.say t num q n))++C)→Vc Ok (some ⟨g',0,none⟩) (s.l.el+1) aj→w.heap.size≤w'.heap.size→Ψ (G (cf.finish (.tuple #[])) cs) w'):
 Ψ (G (Frame.enter prog 149 #[ptr lb,ptr T,i6 q,i6 n] .normal) (cf::cs)) w:=by
 replace hS:=(hS.get (h1.app (pM s))).get ((h2.app (pM s)).cons);refine iT f149 func149 _ rfl 34 (by kernel_rfl) hS fun bb a0 B1 hn af aJ aP S0 dH=>?_
 refine Vb [Fb lb wi num s.k.J] [(3,[(0,(0,2),true)])] F aL (fun a wr z=>hB a wr (by omega)) af 23 [(1,(0,2),true),(1,(0,2),true),(4,(0,0),true),(0,(0,0),true),(2,(0,0),true),(0,(0,2),true),(1,(0,1),true)] [] [(11,ptr s.k.J)] (bR B1 (zo ⟨s.l.now,t,num,q,n⟩)::·) 1 [] [] [] 18 30 31 33 55 5 40 6 7 0 (by kernel_rfl) (by kernel_rfl) (by kernel_rfl) (by kernel_rfl) (by kernel_rfl) (by kernel_rfl) (fun i r h=>by match i,h with|0,h=>cases h;exact⟨rfl,2,by decide,by decide,rfl⟩) rfl rfl (by decide) (by kernel_rfl) gl gl gl S0 rfl rfl (by decide) rfl hv (fun _ _=>rfl) rfl (BO _) (by omega) (by simp only[maxLen];omega) (by omega) fun g' aj iW bA a1 w1 Vo A hz dw aG=>?_
 have ck:=A.size;have S1:St Ok w1.heap.size 34 _ _ 0 a1 w1:=⟨dw,A.au,rfl⟩;rw[aP] at aG;generalize Hz:w1.heap.size=B2 at*;refine aD F hB af aG S1 4 [5,0,0,1] [] [] [] (fun M=>gH 5 (0,0) (.slice (some ⟨g',0,none⟩) (s.l.el+1) aj) (M)) 0 5 [] [24] fun a2 w2 S2 aW dV kX A8=>?_
 refine dA F S2 af aJ aW [] (.tuple #[]) ?_;have e:s.l.say t num q n={s.l with el:=s.l.el+1,ev:=upd s.l.ev s.l.el ⟨s.l.now,t,num,q,n⟩}:=by unfold LS.say;rw[hc]
 rw[e] at K;exact K g' aj bA w2 (S2.au.tail.tail.tail.re 3 rfl rfl _ A.upd) A.vc (by omega)
end
end
section
open Go.Conc Go.RowKit
def Qk(en:Value)(eb:qP)(es:List (Int×Value)):Prop:=(∀e∈es,e.2.oneCell'=true)∧((en=.slice none 0 0∧es=[]∧eb.c=0)∨
 ∃off cap,en=.slice (some ⟨eb.E,off,none⟩) es.length cap∧eb.c=1∧es.length≤cap∧off+2*cap≤eb.n∧0<eb.n∧∀(j:Nat)(u:Value),(flat es)[j]? =some u→eb.f (off+j)=u)
structure PV(Ok:Addr→Bool→Prop)(s:PS)(es:List (Int×Value)):Prop where
 jr:Vc Ok s.ea s.l.el s.ec
 en:Qk s.en s.eb es
 eo:s.eb.c=1→s.k.A<s.eb.E∧∀(a:Addr)(wr:Bool),a.block=s.eb.E→Ok a wr
section
variable{main:Bool}{B:Nat}{Ok:Addr→Bool→Prop}{Ψ:Goroutine→World→Prop}
theorem ue{w:World}{E j:Nat}{cur:Array Value}{t:TypeId}{f:Nat×Nat}(h:w.heap[E]? =some (.cells cur t f)):w.cell? ⟨E,j,none⟩=cur[j]? :=pQ h
theorem tY{w:World}{M:List ah}{eb:qP}{i:Nat}(h:Sat Ok w M)(hi:nth M i=some (eR eb))(hc:eb.c=1):∃cur,w.heap[eb.E]? =some (.cells cur 128 (0,0))∧cur.size=eb.n∧∀j,j<eb.n→cur[j]? =some (eb.f j):=by
 obtain⟨_,_,cur,h2,h3⟩:=h.row i _ hi eb.E 128 eb.n (by show(match eb.c with|0=>none|_+1=>some (eb.E,128,eb.n))=_;rw[hc]);refine⟨cur,h2,h3,fun j hj=>?_⟩;have:=h.val i _ hi (0,j) ⟨by show 0<eb.c;omega,hj⟩;rw[←ue h2];exact this
theorem xD{w:World}{M:List ah}{eb:qP}{en:Value}{es:List (Int×Value)}{i N:Nat}(h:Sat Ok w M)(hi:nth M i=some (eR eb))(hE:Qk en eb es)(hN:eb.c=1→N≤eb.E):fU N w en es:=by
 refine⟨hE.1,hE.2.imp (fun x=>⟨x.1,x.2.1⟩) ?_⟩
 rintro ⟨off,cap,h1,h2,h3,h4,h5,h6⟩
 obtain⟨cur,c1,c2,c3⟩:=tY h hi h2;refine⟨eb.E,off,cap,cur,h1,h3,hN h2,c1,by omega,fun j u hu=>?_⟩;have hl:j<(flat es).length:=(List.getElem?_eq_some_iff.1 hu).1;rw[gO] at hl;rw[c3 _ (by omega),h6 j u hu]
theorem Sat.two{w w':World}{r0 r1 Up Uo:ah}{M2:List ah}(h:Sat Ok w (r0::r1::M2))(hv:∀i r,nth M2 i=some r→∀j,r.has j→w'.cell? (r.ad j)=w.cell? (r.ad j)∧w'.frozen? (r.ad j)=w.frozen? (r.ad j))(hr:∀i r,nth M2 i=some r→∀g e n,r.row=some (g,e,n)→qM w g e n→qM w' g e n)(IG:Sat Ok w' [Up,Uo])(hs:∀i r,nth M2 i=some r→∀j j',r.has j→(Up.has j'→Up.ad j'≠r.ad j)∧(Uo.has j'→Uo.ad j'≠r.ad j)):Sat Ok w' (Up::Uo::M2):=by
 refine⟨fun i r hi j hj=>?_,fun i r hi j hj=>?_,fun i r i' r' hi dJ hw j j' hj bP he=>?_,fun i r hi g e n hg=>?_⟩
 ·match i,hi with
  |0,hi=>exact IG.val 0 r hi j hj
  |1,hi=>exact IG.val 1 r hi j hj
  |i+2,hi=>rw[(hv i r hi j hj).1];exact h.val (i+2) r hi j hj
 ·match i,hi with
  |0,hi=>exact IG.ok 0 r hi j hj
  |1,hi=>exact IG.ok 1 r hi j hj
  |i+2,hi=>have:=h.ok (i+2) r hi j hj;exact⟨this.1,fun z=>⟨(this.2 z).1,by rw[(hv i r hi j hj).2];exact(this.2 z).2⟩⟩
 ·match i,hi,i',dJ with
  |0,hi,0,dJ=>exact IG.sep 0 r 0 r' hi dJ hw j j' hj bP he
  |0,hi,1,dJ=>exact IG.sep 0 r 1 r' hi dJ hw j j' hj bP he
  |1,hi,0,dJ=>exact IG.sep 1 r 0 r' hi dJ hw j j' hj bP he
  |1,hi,1,dJ=>exact IG.sep 1 r 1 r' hi dJ hw j j' hj bP he
  |0,hi,i'+2,dJ=>cases hi;exact absurd he ((hs i' r' dJ j' j bP).1 hj)
  |1,hi,i'+2,dJ=>cases hi;exact absurd he ((hs i' r' dJ j' j bP).2 hj)
  |i+2,hi,0,dJ=>cases dJ;exact absurd he.symm ((hs i r hi j j' hj).1 bP)
  |i+2,hi,1,dJ=>cases dJ;exact absurd he.symm ((hs i r hi j j' hj).2 bP)
  |i+2,hi,i'+2,dJ=>exact h.sep (i+2) r (i'+2) r' hi dJ hw j j' hj bP he
 ·match i,hi with
  |0,hi=>exact IG.row 0 r hi g e n hg
  |1,hi=>exact IG.row 1 r hi g e n hg
  |i+2,hi=>have:=h.row (i+2) r hi g e n hg;exact⟨this.1,this.2.1,hr i r hi g e n hg this.2.2⟩
theorem Sat.cy{w w':World}{A:Nat}{x en v:Value}{eb:qP}{es iJ:List (Int×Value)}{M:List ah}(h:Sat Ok w (bR A [x,en]::eR eb::M))(hE:Qk en eb es)(hA:eb.c=1→A<eb.E)(hB:HB w.heap.size Ok)(qj:eb.c=1→∀(a:Addr)(wr:Bool),a.block=eb.E→Ok a wr)(hk:Kp (bV en) w w' [⟨A,1,none⟩])(hv:w'.cell? ⟨A,1,none⟩=some v)(hf:w'.frozen? ⟨A,1,none⟩=false)(he:fU (A+1) w' v iJ)(kD:∀g∈bV v,g∈bV en∨w.heap.size≤g)(aN:0<iJ.length)(GY:∀i r g e n,nth M i=some r→r.row=some (g,e,n)→g≠A):
 ∃lS,Sat Ok w' (bR A [x,v]::eR lS::M)∧Qk v lS iJ∧lS.c=1∧A<lS.E∧∀(a:Addr)(wr:Bool),a.block=lS.E→Ok a wr:=by
 obtain⟨ho,⟨_,z⟩|⟨E',off,cap,cur,e1,e2,e3,e4,e5,e6⟩⟩:=he
 ·rw[z] at aN;cases aN
 have uU:∀g,g∈bV en↔eb.c=1∧g=eb.E:=fun g=>by
  rcases hE.2 with ⟨z1,z2,z3⟩|⟨o,c,z1,z2,_⟩
  ·rw[z1,br];simp[Value.ownBlock,z3]
  ·rw[z1,br];simp[Value.ownBlock,z2];exact⟨fun h=>h.symm,fun h=>h.symm⟩
 have Me:(eb.c=1∧E'=eb.E)∨w.heap.size≤E':=by
  rcases kD E' (by rw[e1,br];simp[Value.ownBlock]) with z|z
  ·exact .inl ((uU _).1 z)
  ·exact .inr z
 have AM:∀(a:Addr)(wr:Bool),a.block=E'→Ok a wr:=fun a wr hb=>by
  rcases Me with ⟨z1,z2⟩|z
  ·exact qj z1 a wr (hb.trans z2)
  ·exact hB a wr (by omega)
 have sw:0<cur.size:=by omega
 have Ei:∀j,w'.frozen? ⟨E',j,none⟩=false:=fun j=>by simp[World.frozen?,e4]
 have Hs:∀j,j<cur.size→w'.cell? ⟨E',j,none⟩=some (cur.getD j undef):=fun j hj=>by
  rw[ue e4];simp[Array.getD,hj]
 have lf:∀i r,nth M i=some r→∀j,r.has j→(r.ad j).block∉bV en∧r.ad j∉[(⟨A,1,none⟩:Addr)]:=fun i r hi j hj=>by
  have rK:=h.val (i+2) r hi j hj;refine⟨fun z=>?_,fun z=>?_⟩
  ·obtain⟨z1,z2⟩:=(uU _).1 z
   obtain⟨cu,c1,c2,c3⟩:=tY h (i:=1) rfl z1
   have aT:(r.ad j).off<eb.n∧(r.ad j).spot=none:=by
    unfold World.cell? at rK;rw[z2,c1] at rK
    simp only at rK
    cases eE:(r.ad j).spot with
    |none=>rw[eE] at rK;simp at rK;exact⟨by rw[←c2];exact(Array.getElem?_eq_some_iff.1 rK).1,rfl⟩
    |some q=>rw[eE] at rK;simp at rK
   have qy:r.ad j=⟨eb.E,(r.ad j).off,none⟩:=by
    cases RF:r.ad j with
    |mk bb oo ss=>rw[RF] at z2 aT;simp at z2 aT;rw[z2,aT.2]
   have:=h.sep 1 (eR eb) (i+2) r rfl hi rfl (0,(r.ad j).off) j ⟨by show 0<eb.c;omega,aT.1⟩ hj qy.symm;omega
  ·simp only[List.mem_cons,List.not_mem_nil,or_false] at z
   have:=h.sep 0 _ (i+2) r rfl hi rfl (0,1) j ⟨Nat.zero_lt_one,Nat.lt_succ_self 1⟩ hj z.symm;omega
 refine⟨⟨E',cur.size,1,fun j=>cur.getD j undef⟩,?_,⟨ho,.inr ⟨off,cap,e1,rfl,e2,e5,sw,fun j u hu=>?_⟩⟩,rfl,by show A<E';omega,AM⟩
 ·refine h.two (fun i r hi j hj=>?_) (fun i r hi g e n hg hR=>?_) ?_ (fun i r hi j j' hj=>⟨fun bP he=>?_,fun bP he=>?_⟩)
  ·obtain⟨b1,b2⟩:=lf i r hi j hj
   have rK:=h.val (i+2) r hi j hj;exact⟨(hk.cellC _ _ b1 b2 rK).trans rK.symm,hk.jq _ _ b1 b2 rK⟩
  ·obtain⟨cu,c1,c2⟩:=hR
   obtain⟨q1,q2,_⟩:=h.row (i+2) r hi g e n hg;obtain⟨b1,b2⟩:=lf i r hi (0,0) q1;rw[q2] at b1;refine⟨cu,hk.blk g cu e (0,0) b1 (fun x hx=>?_) c1,c2⟩;simp only[List.mem_cons,List.not_mem_nil,or_false] at hx;subst hx;exact fun z=>GY i r g e n hi hg z.symm
  ·have nR:w'.cell? ⟨A,0,none⟩=some x∧w'.frozen? ⟨A,0,none⟩=false:=by
    have h0:=h.val 0 _ rfl (0,0) ⟨Nat.zero_lt_one,Nat.zero_lt_succ 1⟩;have hn:A∉bV en:=fun z=>by obtain⟨z1,z2⟩:=(uU _).1 z;have:=hA z1;omega
    exact⟨hk.cellC _ _ hn (by simp) h0,(hk.jq _ _ hn (by simp) h0).trans ((h.ok 0 _ rfl (0,0) ⟨Nat.zero_lt_one,Nat.zero_lt_succ 1⟩).2 rfl).2⟩
   have HA:∀j,j<2→Ok ⟨A,j,none⟩ false∧Ok ⟨A,j,none⟩ true:=fun j hj=>by
    have:=h.ok 0 _ rfl (0,j) ⟨Nat.zero_lt_one,hj⟩;exact⟨this.1,(this.2 rfl).1⟩
   refine⟨fun i r hi j hj=>?_,fun i r hi j hj=>?_,fun i r i' r' hi dJ hw j j' hj bP he=>?_,fun i r hi g e n hg=>?_⟩
   ·match i,hi with
    |0,hi=>
     cases hi
     obtain⟨j1,j2⟩:=j;have nN:j2<2:=hj.2
     match j2,nN with
     |0,_=>exact nR.1
     |1,_=>exact hv
    |1,hi=>cases hi;exact Hs _ hj.2
   ·match i,hi with
    |0,hi=>
     cases hi
     obtain⟨j1,j2⟩:=j;have nN:j2<2:=hj.2;refine⟨(HA j2 nN).1,fun _=>⟨(HA j2 nN).2,?_⟩⟩
     match j2,nN with
     |0,_=>exact nR.2
     |1,_=>exact hf
    |1,hi=>cases hi;exact⟨AM _ _ rfl,fun _=>⟨AM _ _ rfl,Ei _⟩⟩
   ·have Fa:A≠E':=by omega
    match i,hi,i',dJ with
    |0,hi,0,dJ=>
     cases hi;cases dJ
     obtain⟨j1,j2⟩:=j;obtain⟨k1,k2⟩:=j';have h1:j1<1:=hj.1;have h2:k1<1:=bP.1
     simp at he
     exact⟨rfl,by rw[he];congr 1;omega⟩
    |0,hi,1,dJ=>cases hi;cases dJ;simp at he;exact absurd he.1 Fa
    |1,hi,0,dJ=>cases hi;cases dJ;simp at he;exact absurd he.1.symm Fa
    |1,hi,1,dJ=>
     cases hi;cases dJ
     obtain⟨j1,j2⟩:=j;obtain⟨k1,k2⟩:=j';have h1:j1<1:=hj.1;have h2:k1<1:=bP.1
     simp at he
     exact⟨rfl,by rw[he];congr 1;omega⟩
   ·match i,hi with
    |0,hi=>cases hi;cases hg
    |1,hi=>cases hi;cases hg;exact⟨⟨Nat.zero_lt_one,sw⟩,rfl,cur,e4,rfl⟩
  ·obtain⟨b1,b2⟩:=lf i r hi j hj
   obtain⟨j1,j2⟩:=j';have h1:j1<1:=bP.1;have nN:j2<2:=bP.2;have:=h.sep 0 _ (i+2) r rfl hi rfl (0,j2) j ⟨Nat.zero_lt_one,nN⟩ hj he;omega
  ·obtain⟨b1,b2⟩:=lf i r hi j hj
   have hb:(r.ad j).block=E':=by rw[←he]
   rcases Me with ⟨z1,z2⟩|z
   ·exact b1 ((uU _).2 ⟨z1,hb.trans z2⟩)
   ·have:=aq (h.val (i+2) r hi j hj)
    omega
 ·have hl:j<(flat iJ).length:=(List.getElem?_eq_some_iff.1 hu).1
  rw[gO] at hl;have:=e6 j u hu
  show cur.getD (off+j) undef=u
  rw[Array.getD_eq_getD_getElem?,this];rfl
end
end
section
open Go.Conc Go.RowKit Tryz
def Flat(C:List ah):Prop:=∀i r,nth C i=some r→r.row=none
theorem Flat.cons{C:List ah}{r:ah}(h:Flat C)(hr:r.row=none):Flat (r::C):=fun i x hi=>by
 rcases cK hi with ⟨k,rfl,h0⟩|⟨rfl,rfl⟩
 ·exact h k x h0
 ·exact hr
theorem Flat.nil:Flat []:=fun i r h=>by cases h
theorem Flat.app{A C:List ah}(ha:Flat A)(hc:Flat C):Flat (A++C):=fun i r hi=>by
 rw[cz] at hi
 split at hi
 ·exact ha i r hi
 ·exact hc _ r hi
theorem Flat.left{A C:List ah}(h:Flat (A++C)):Flat A:=fun i r hi=>h i r (by rw[cz,if_pos (rZ _ _ _ hi)];exact hi)
theorem Flat.tail{C:List ah}{r:ah}(h:Flat (r::C)):Flat C:=fun i x hi=>h (i+1) x hi
theorem Sat.HQ{Ok:Addr→Bool→Prop}{w:World}{A C:List ah}{r:ah}(h:Sat Ok w (A++(r::C))):Sat Ok w (A++C):=by
 refine h.map (fun i=>if i<A.length then i else i+1) (fun i r' hi=>?_) (fun i j r' hi hw e=>?_)
 ·rw[cz] at hi
  split at hi
  ·rename_i z;simp only[z,if_true];exact⟨r',by rw[cz,if_pos z];exact hi,.inl rfl⟩
  ·rename_i z
   simp only[z,if_false];refine⟨r',?_,.inl rfl⟩;rw[cz,if_neg (by omega),show i+1-A.length=(i-A.length)+1 by omega];exact hi
 ·split at e
  ·split at e<;>omega
  ·split at e<;>omega
theorem Sat.Zf{Ok:Addr→Bool→Prop}{w:World}{A C:List ah}{r r2:ah}(h:Sat Ok w (A++(r::r2::C))):Sat Ok w (A++(r2::r::C)):=by
 refine h.map (fun i=>if i=A.length then i+1 else if i=A.length+1 then A.length else i) (fun i r' hi=>⟨r',?_,.inl rfl⟩) (fun i j r' hi hw e=>?_)
 ·rw[cz] at hi ⊢
  by_cases e1:i=A.length
  ·subst e1
   rw[if_neg (by omega),Nat.sub_self] at hi;rw[if_pos rfl,if_neg (by omega),Nat.add_sub_cancel_left];exact hi
  ·by_cases e2:i=A.length+1
   ·subst e2
    rw[if_neg (by omega),Nat.add_sub_cancel_left] at hi;rw[if_neg e1,if_pos rfl,if_neg (by omega),Nat.sub_self];exact hi
   ·rw[if_neg e1,if_neg e2]
    split at hi
    ·rename_i z;rw[if_pos z];exact hi
    ·rename_i z
     rw[if_neg z];obtain⟨k,hk⟩:∃k,i-A.length=k+2:=⟨i-A.length-2,by omega⟩;rw[hk] at hi ⊢;exact hi
 ·split at e
  ·split at e
   ·omega
   ·split at e<;>omega
  ·split at e
   ·split at e
    ·omega
    ·split at e<;>omega
   ·split at e
    ·omega
    ·split at e<;>omega
theorem Sat.OP{Ok:Addr→Bool→Prop}{w:World}{A C:List ah}:∀{X:List ah},Sat Ok w (A++(X++C))→Sat Ok w (A++C)
 |[],h=>h
 |_::X,h=>Sat.OP (X:=X) h.HQ
def FA(x:Nat):Value:=.func (.func 144) #[ptr x] #[]
def jz(s:PS)(i:Nat):Int×Value:=((s.l.ag i).a,if(s.l.ag i).c=0 then s.k.sc (s.l.ag i).t.toNat else FA (s.wb (s.l.ag i).w.toNat))
def cy(s:PS):List (Int×Value):=s.q.map (jz s)
def gR(ag:Nat→rB)(i j:Nat):Prop:=(ag i).a<(ag j).a∨((ag i).a=(ag j).a∧i<j)
structure QI(s:PS):Prop where
 lt:∀i∈s.q,i<s.l.al∧(s.l.ag i).o=false
 all:∀i,i<s.l.al→(s.l.ag i).o=false→i∈s.q
 DT:s.q.Pairwise (gR s.l.ag)
 ws:∀i∈s.q,(s.l.ag i).c=0∨∃w:Nat,(s.l.ag i).w=w∧w<s.l.wl
abbrev PS.c8(s:PS)(t:Nat)(ly d:Int)(i x:Nat)(en:Value)(eb:qP):PS:={s with en:=en,eb:=eb,q:=s.q.take i++s.l.al::s.q.drop i,wb:=upd s.wb s.l.wl x,l:=s.l.wait t ly d}
theorem pO(s:PS):(cy s).length=s.q.length:=by simp[cy]
theorem yI{ag:Nat→rB}{q:List Nat}(h:q.Pairwise (gR ag)){i j:Nat}(Iw:i<j)(hj:j<q.length):gR ag (q[i]'(by omega)) q[j]:=List.pairwise_iff_getElem.1 h i j (by omega) hj Iw
theorem QI.c8{s:PS}(Q:QI s){t:Nat}{ly d:Int}{i x:Nat}{en:Value}{eb:qP}(hi:i≤s.q.length)(hp:lz (cy s) (s.l.now+d) i):QI (s.c8 t ly d i x en eb)∧cy (s.c8 t ly d i x en eb)=(cy s).take i++(s.l.now+d,FA x)::(cy s).drop i:=by
 have oP:∀j,j<s.l.al→(s.c8 t ly d i x en eb).l.ag j=s.l.ag j:=fun j hj=>by show upd _ _ _ j=_;simp only[upd];rw[if_neg];rfl;exact Nat.ne_of_lt hj
 have fy:(s.c8 t ly d i x en eb).l.ag s.l.al=⟨s.l.now+d,t,s.l.wl,1,false⟩:=by show upd _ _ _ _=_;simp only[upd];rw[if_pos];rfl
 have bY:∀j,j∈(s.c8 t ly d i x en eb).q↔j=s.l.al∨j∈s.q:=fun j=>by
  show j∈s.q.take i++s.l.al::s.q.drop i↔_
  conv=>rhs;rhs;rw[←List.take_append_drop i s.q]
  simp only[List.mem_append,List.mem_cons]
  constructor
  ·rintro (h|h|h)
   ·exact .inr (.inl h)
   ·exact .inl h
   ·exact .inr (.inr h)
  ·rintro (h|h|h)
   ·exact .inr (.inl h)
   ·exact .inl h
   ·exact .inr (.inr h)
 have N7:(s.c8 t ly d i x en eb).l.al=s.l.al+1:=rfl;have RR:(s.c8 t ly d i x en eb).l.wl=s.l.wl+1:=rfl
 have Kd:∀j∈s.q,jz (s.c8 t ly d i x en eb) j=jz s j:=fun j hj=>by
  have aT:=(Q.lt j hj).1;unfold jz;rw[oP j aT];rcases Q.ws j hj with z|⟨w,z1,z2⟩
  ·rw[if_pos z,if_pos z]
  ·have:upd s.wb s.l.wl x (s.l.ag j).w.toNat=s.wb (s.l.ag j).w.toNat:=by rw[z1];simp only[Int.toNat_natCast,upd];rw[if_neg (by omega)]
   show(_,if _ then _ else FA (upd s.wb s.l.wl x (s.l.ag j).w.toNat))=_
   rw[this]
 refine⟨⟨fun j hj=>?_,fun j h1 h2=>?_,?_,fun j hj=>?_⟩,?_⟩
 ·rcases(bY j).1 hj with rfl|hj
  ·rw[fy,N7];exact⟨by omega,rfl⟩
  ·rw[oP j (Q.lt j hj).1,N7];have:=Q.lt j hj;exact⟨by omega,this.2⟩
 ·rw[bY]
  by_cases e:j=s.l.al
  ·exact .inl e
  ·have hj:j<s.l.al:=by rw[N7] at h1;omega
   rw[oP j hj] at h2;exact .inr (Q.all j hj h2)
 ·show(s.q.take i++s.l.al::s.q.drop i).Pairwise _
  have hs:∀j∈s.q,∀k∈s.q,gR s.l.ag j k→gR (s.c8 t ly d i x en eb).l.ag j k:=fun j hj k hk h=>by
   unfold gR;rw[oP j (Q.lt j hj).1,oP k (Q.lt k hk).1];exact h
  have G0:=Q.DT;rw[←List.take_append_drop i s.q,List.pairwise_append] at G0;obtain⟨p1,p2,p3⟩:=G0;have ht:∀j∈s.q.take i,j∈s.q:=fun j hj=>List.mem_of_mem_take hj
  have hd:∀j∈s.q.drop i,j∈s.q:=fun j hj=>List.mem_of_mem_drop hj
  rw[List.pairwise_append,List.pairwise_cons];refine⟨List.Pairwise.imp_of_mem (fun ha hb h=>hs _ (ht _ ha) _ (ht _ hb) h) p1,⟨fun j hj=>?_,List.Pairwise.imp_of_mem (fun ha hb h=>hs _ (hd _ ha) _ (hd _ hb) h) p2⟩,fun j hj k hk=>?_⟩
  ·unfold gR
   rw[fy,oP j (Q.lt j (hd j hj)).1]
   left
   obtain⟨n,hn⟩:=List.getElem?_of_mem hj;rw[List.getElem?_drop] at hn;have:=hp.gt (i+n) (jz s j) (by omega) (by simp[cy,hn]);exact this
  ·rcases List.mem_cons.1 hk with rfl|hk
   ·unfold gR
    rw[fy,oP j (Q.lt j (ht j hj)).1]
    have hle:(s.l.ag j).a≤s.l.now+d:=by
     obtain⟨n,hn⟩:=List.getElem?_of_mem hj;rw[List.getElem?_take] at hn
     split at hn
     ·rename_i LR
      have yV:0<i:=by omega
      have aT:i-1<s.q.length:=by omega
      have hl:=hp.le (jz s (s.q[i-1])) yV (by simp[cy,aT]);have dr:(s.l.ag (s.q[i-1])).a≤s.l.now+d:=hl;rcases Nat.eq_or_lt_of_le (show n≤i-1 by omega) with e|e
      ·subst e
       rw[List.getElem?_eq_getElem aT] at hn;cases hn;exact dr
      ·have hq:=yI Q.DT e aT
       have WV:s.q[n]'(by omega)=j:=by rw[List.getElem?_eq_getElem (by omega)] at hn;exact Option.some.inj hn
       rw[WV] at hq;rcases hq with z|z
       ·omega
       ·omega
     ·cases hn
    have:=(Q.lt j (ht j hj)).1
    show(s.l.ag j).a<s.l.now+d∨((s.l.ag j).a=s.l.now+d∧j<s.l.al)
    omega
   ·exact hs _ (ht j hj) _ (hd k hk) (p3 j hj k hk)
 ·rcases(bY j).1 hj with rfl|hj
  ·rw[fy,RR];exact .inr ⟨s.l.wl,rfl,by omega⟩
  ·rw[oP j (Q.lt j hj).1,RR]
   exact(Q.ws j hj).imp id fun⟨w,z1,z2⟩=>⟨w,z1,by omega⟩
 ·show(s.q.take i++s.l.al::s.q.drop i).map _=_
  rw[List.map_append,List.map_cons,cy,←List.map_take,←List.map_drop]
  congr 1
  ·exact List.map_congr_left fun j hj=>Kd j (List.mem_of_mem_take hj)
  ·congr 1
   ·unfold jz
    rw[fy];have e1:upd s.wb s.l.wl x ((s.l.wl:Int)).toNat=x:=by simp[upd]
    simp only
    rw[if_neg (by decide),e1]
   ·exact List.map_congr_left fun j hj=>Kd j (List.mem_of_mem_drop hj)
section
variable{main:Bool}{B:Nat}{Ok:Addr→Bool→Prop}{Ψ:Goroutine→World→Prop}
theorem QO(F:aC prog main (DX Ok) Ψ)(hB:HB B Ok){cf:Frame}{cs:List Frame}{w:World}{s:PS}{C:List ah}{es:List (Int×Value)}(t:Int)(fn:Fn)(fst cap:Array Value)(hS:Sat Ok w (pM s++C))(hv:PV Ok s es)(hC:Flat C)(ey:B≤w.heap.size)(hq:es.length<900)(K:∀i en eb w',i≤es.length→lz es t i→Sat Ok w' (pM {s with en:=en,eb:=eb}++C)→PV Ok {s with en:=en,eb:=eb} (es.take i++(t,.func fn fst cap)::es.drop i)→w.heap.size≤w'.heap.size→Ψ (G (cf.finish (.tuple #[])) cs) w'):
 Ψ (G (Frame.enter prog 49 #[ptr s.k.A,i6 t,.func fn fst cap] .normal) (cf::cs)) w:=by
 have nR:=hS.ok 0 _ rfl (0,1) ⟨Nat.zero_lt_one,Nat.lt_succ_self 1⟩;have dw:=hS.val 0 _ rfl (0,1) ⟨Nat.zero_lt_one,Nat.lt_succ_self 1⟩;have UY:=aq dw;have he:fU (s.k.A+1) w s.en es:=xD (i:=1) hS rfl hv.en fun z=>(hv.eo z).1
 have UD:∀g,g∈bV s.en→s.eb.c=1∧g=s.eb.E:=fun g hg=>by
  rcases hv.en.2 with ⟨z1,z2,z3⟩|⟨o,c,z1,z2,_⟩
  ·rw[z1,br] at hg;simp[Value.ownBlock] at hg
  ·rw[z1,br] at hg;simp[Value.ownBlock] at hg;exact⟨z2,hg.symm⟩
 refine Ge (s.k.A+1) s.k.A t fn fst cap s.en es w (by exact UY) (Nat.lt_succ_self _) hq he dw (nR.2 rfl).2 nR.1 (nR.2 rfl).1 (fun a wr h=>?_) Ψ F cf cs fun v w' hp=>?_
 ·rcases h with h|h
  ·obtain⟨z1,z2⟩:=UD _ h;exact(hv.eo z1).2 a wr z2
  ·exact hB a wr (by omega)
 ·obtain⟨rfl,hk,v',i,hi,nB,c1,c2,c3,c4⟩:=hp
  have hlen:(es.take i++(t,Value.func fn fst cap)::es.drop i).length=es.length+1:=by simp;omega
  have GY:∀i r g e n,nth ([bR s.k.J [.slice s.ea s.l.el s.ec],vR s.ea 5 (fun j=>zo (s.l.ev j)) s.l.el s.ec 55,sR s.ea 5 s.vv s.l.el s.ec,fR ⟨s.k.HD,0,none⟩ 1 (fun j=>[i6 (s.l.us j)]) s.k.V.nc true,fR ⟨s.k.O,0,none⟩ 4 (fun j=>zF (s.l.ou j,s.oh j)) s.k.V.nc true]++C) i=some r→r.row=some (g,e,n)→g≠s.k.A:=fun i r g e n hr hg=>by
   match i,hr with
   |0,hr=>cases hr;cases hg
   |1,hr=>
    cases hr
    cases L4:s.ea with
    |none=>rw[L4] at hg;cases hg
    |some a=>
     obtain⟨q1,q2,_⟩:=hS.row 3 _ rfl g e n hg;intro hgA;rw[L4] at q1 q2;rcases hv.jr.row with ⟨z,_⟩|⟨gg,z,_⟩
     ·rw[L4] at z;cases z
     ·rw[L4] at z;cases z
      have AU:gg=g:=q2;have:=hS.sep 0 _ 3 _ rfl rfl rfl (0,0) (0,0) ⟨Nat.zero_lt_one,Nat.zero_lt_succ 1⟩ (by rw[L4];exact q1) (by rw[L4];show(⟨s.k.A,0,none⟩:Addr)=((⟨gg,0,none⟩:Addr).add (0*5)).add 0;rw[add_add,AU,hgA]);omega
   |2,hr=>cases hr;cases hg
   |3,hr=>cases hr;cases hg
   |4,hr=>cases hr;cases hg
   |i+5,hr=>rw[hC i r hr] at hg;cases hg
  obtain⟨lS,q1,q2,q3,q4,q5⟩:=Sat.cy hS hv.en (fun z=>(hv.eo z).1) (fun a wr z=>hB a wr (by omega)) (fun z=>(hv.eo z).2) hk c1 c2 c3 c4 (by rw[hlen];omega) GY;exact K i v' lS w' hi nB q1 ⟨hv.jr,q2,fun _=>⟨q4,q5⟩⟩ hk.size
end
end
section
open Go.Conc Go.RowKit Tryz
section
variable{main:Bool}{B:Nat}{Ok:Addr→Bool→Prop}{Ψ:Goroutine→World→Prop}
theorem vq(F:aC prog main (DX Ok) Ψ)(hB:HB B Ok){cf:Frame}{cs:List Frame}{w:World}{s:PS}{C:List ah}{T aX t:Nat}{ly d:Int}(hS:Sat Ok w (pM s++C))(h2:Has C (Qs T s.k.A t aX))(hv:PV Ok s (cy s))(Q:QI s)(hC:Flat C)(ey:B≤w.heap.size)(hq:s.q.length<900)(vw:-4611686018427387904≤s.l.now+d)(uu:s.l.now+d<4611686018427387904)(K:∀i x en eb w',Sat Ok w' (pM (s.c8 t ly d i x en eb)++(bR x [ptr T,i6 0]::C))→PV Ok (s.c8 t ly d i x en eb) (cy (s.c8 t ly d i x en eb))→QI (s.c8 t ly d i x en eb)→i≤s.q.length→w.heap.size≤x→x<w'.heap.size→Ψ (G (cf.finish (ptr x)) cs) w'):
 Ψ (G (Frame.enter prog 152 #[ptr T,i6 d] .normal) (cf::cs)) w:=by
 replace hS:=hS.get (h2.app (pM s));refine iT f152 func152 _ rfl 26 (by kernel_rfl) hS fun bb a0 B1 hn af aJ aP S0 dH=>?_
 have hw:IntKind.wrap .i64 (s.l.now+d)=s.l.now+d:=bI (by omega) (by omega);refine aD F hB af aP S0 13 [1,0,0,1,1,0,0,1,2,0,0,1] [] [15] [(23,.func (Fn.func 144) #[ptr B1] #[]),(21,i6 (IntKind.wrap .i64 (s.l.now+d))),(12,ptr s.k.A),(5,ptr B1)] (fun M=>bR (B1) [ptr T,i6 0]::(M)) 1 13 [] [15] fun a1 w1 S1 aG ck cV cW=>?_
 rw[hw] at S1;refine fT F af aG S1 24 49 #[ptr s.k.A,i6 (s.l.now+d),.func (Fn.func 144) #[ptr B1] #[]] fun kP bK=>?_
 have sC:Sat Ok w1 (pM s++(bR B1 [ptr T,i6 0]::C)):=Sat.back (A:=pM s) (Sat.HQ (A:=[bR B1 [ptr T,i6 0]]) S1.au);refine QO F hB (s.l.now+d) (.func 144) #[ptr B1] #[] sC hv (hC.cons rfl) (by omega) (by rw[pO];exact hq) fun i en eb w2 hi nB h2 qU kX=>bK _ _ _ h2 fun a2 B2 S2 aW dV=>?_
 rw[pO] at hi;refine aD F hB af aW S2 6 [] [] [] [(4,ptr B1)] (fun M=>M) 0 20 [] [15] fun a3 w3 S3 bD eu fS gD=>?_
 refine dA F S3 af aJ bD [] (ptr B1) ?_;obtain⟨Q',e'⟩:=Q.c8 (t:=t) (ly:=ly) (x:=B1) (en:=en) (eb:=eb) hi nB;have Rt:PV Ok (s.c8 t ly d i B1 en eb) (cy (s.c8 t ly d i B1 en eb)):=by rw[e'];exact⟨qU.jr,qU.en,qU.eo⟩
 exact K i B1 en eb w3 S3.au Rt Q' hi (by omega) (by omega)
theorem yt(F:aC prog main (DX Ok) Ψ)(hB:HB B Ok){cf:Frame}{cs:List Frame}{w:World}{s:PS}{C:List ah}{T aX t:Nat}{v:Value}{e:Bool}{ly d:Int}(hS:Sat Ok w (pM s++(jw T v e::C)))(h2:Has C (Qs T s.k.A t aX))(hv:PV Ok s (cy s))(Q:QI s)(hC:Flat C)(ey:B≤w.heap.size)(hq:s.q.length<900)(vw:-4611686018427387904≤s.l.now+d)(uu:s.l.now+d<4611686018427387904)(K:∀i x en eb w',Sat Ok w' (pM (s.c8 t ly d i x en eb)++(jw T (ptr x) e::bR x [ptr T,i6 0]::C))→PV Ok (s.c8 t ly d i x en eb) (cy (s.c8 t ly d i x en eb))→QI (s.c8 t ly d i x en eb)→i≤s.q.length→w.heap.size≤x→x<w'.heap.size→Ψ (G (cf.finish (ptr x)) cs) w'):
 Ψ (G (Frame.enter prog 162 #[ptr T,i6 d] .normal) (cf::cs)) w:=by
 refine iT f162 func162 _ rfl 15 (by kernel_rfl) hS fun bb a0 B1 hn af aJ aP S0 dH=>?_
 refine aD F hB af aP S0 9 [] [] [] [(7,i6 d),(6,ptr T),(5,ptr T),(0,ptr T)] (fun M=>M) 0 9 [] [] fun a1 w1 S1 aG ck cV cW=>?_
 refine fT F af aG S1 8 152 #[ptr T,i6 d] fun kP bK=>?_
 refine vq (ly:=ly) F hB S1.au (h2.cons) hv Q (hC.cons rfl) (by omega) hq vw uu fun i x en eb w2 h2 qU Q2 hi Uz Rp=>bK _ _ _ h2 fun a2 B2 S2 aW dV=>?_
 refine aD F hB af aW S2 12 [8,0,0,1,8,0,0,1] [] [] [(4,ptr x)] (fun M=>gH 8 (0,0) (ptr x) (M)) 0 22 [] [] fun a3 w3 S3 bD eu fS gD=>?_
 refine dA F S3 af aJ bD [] (ptr x) ?_;exact K i x en eb w3 (Sat.Zf (A:=pM (s.c8 t ly d i x en eb)) S3.au) qU Q2 hi (by omega) (by omega)
end
end
section
open Go.Conc Go.RowKit Tryz
def BT(k:PK)(j:Nat):Value:=if j=k.V.nl then .iface 138 (ptr (k.lb j)) else if(k.V.ly j).k=1 then .iface 141 (ptr (k.lb j)) else .iface 144 (ptr (k.lb j))
def uq(x:Mu):List Value:=[i6 x.k,i6 x.n,i6 x.t]
structure zA(k:PK)(C:List ah):Prop where
 lay:∀j,j<k.V.nl→Has C (Fb (k.lb j) (BT k (j+1)) j k.J)
 Ip:∀j,j<k.V.nl→(k.V.ly j).k=1→Has C (oR (k.lb j) 3 [i6 (k.V.ly j).a,i6 (k.V.ly j).b,i6 (k.V.ly j).c,i6 (k.V.ly j).d] false)
 Qd:Has C (Fb (k.lb k.V.nl) .nilIface (-1) k.J)
 X9:Has C (oR (k.lb k.V.nl) 3 [.slice (some k.ca) k.V.nc k.cc,.slice (some ⟨k.HD,0,none⟩) k.V.nc k.V.nc] false)
 Qb:Has C (fR k.ca 2 (fun j=>[i6 (k.V.st j),.slice (k.eH j) (k.V.nt j) (k.fF j)]) k.V.nc false)
 Im:∀c,c<k.V.nc→0<k.V.nt c→∃ta,k.eH c=some ta∧Has C (fR ta 3 (fun j=>uq (k.V.tr c j)) (k.V.nt c) false)
 qb:∀i,i<k.V.nc→Has C (Qs (k.T i) k.A i (k.aX i))
 err:Has C (oR 0 0 [.iface 217 (.agg #[.pointer (some ⟨1,121,none⟩)])] false)
theorem zA.cons{k:PK}{C:List ah}{r:ah}(h:zA k C):zA k (r::C):=⟨fun j hj=>(h.lay j hj).cons,fun j hj hk=>(h.Ip j hj hk).cons,h.Qd.cons,h.X9.cons,h.Qb.cons,fun c hc z=>by
 obtain⟨ta,h3,h4⟩:=h.Im c hc z;exact⟨ta,h3,h4.cons⟩,fun i hi=>(h.qb i hi).cons,h.err.cons⟩
theorem zA.app{k:PK}{C:List ah}(h:zA k C):∀A:List ah,zA k (A++C)
 |[]=>h
 |_::A=>(h.app A).cons
structure Gu(t:Nat)(s0 s:PS):Prop where
 k:s.k=s0.k
 q:s.q=s0.q
 wb:s.wb=s0.wb
 al:s.l.al=s0.l.al
 ag:s.l.ag=s0.l.ag
 wl:s.l.wl=s0.l.wl
 wt:s.l.wt=s0.l.wt
 now:s.l.now=s0.l.now
 tl:s.l.tl=s0.l.tl
 tk:∀j,j≠t→s.l.tk j=s0.l.tk j
 us:∀j,j≠t→s.l.us j=s0.l.us j
 ou:∀j,j≠t→s.l.ou j=s0.l.ou j∧s.oh j=s0.oh j
theorem Gu.refl(t:Nat)(s:PS):Gu t s s:=⟨rfl,rfl,rfl,rfl,rfl,rfl,rfl,rfl,rfl,fun _ _=>rfl,fun _ _=>rfl,fun _ _=>⟨rfl,rfl⟩⟩
theorem Gu.trans{t:Nat}{s0 s1 s2:PS}(h:Gu t s0 s1)(h':Gu t s1 s2):Gu t s0 s2:=⟨h'.k.trans h.k,h'.q.trans h.q,h'.wb.trans h.wb,h'.al.trans h.al,h'.ag.trans h.ag,h'.wl.trans h.wl,h'.wt.trans h.wt,h'.now.trans h.now,h'.tl.trans h.tl,fun j hj=>(h'.tk j hj).trans (h.tk j hj),fun j hj=>(h'.us j hj).trans (h.us j hj),fun j hj=>⟨(h'.ou j hj).1.trans (h.ou j hj).1,(h'.ou j hj).2.trans (h.ou j hj).2⟩⟩
structure TE(γ:Type) where
 Ok:γ→Addr→Bool→Prop
 Ψ:γ→Goroutine→World→Prop
 Bd:γ→Nat
 O:γ→List ah
 s0:γ→PS
 sj:γ→Nat
structure Cn{γ:Type}(E:TE γ)(kk:PK)(t:Nat)(p:γ)(s:PS)(w:World)(v:Value)(R:List ah):Prop where
 au:Sat (E.Ok p) w (pM s++(jw (kk.T t) v false::(R++E.O p)))
 pv:PV (E.Ok p) s (cy s)
 qi:QI s
 fl:Flat (R++E.O p)
 jH:zA kk R
 bd:E.Bd p≤w.heap.size
 gu:Gu t (E.s0 p) s
 hk:s.k=kk
 ql:s.q.length<900
def zC(V:Ev0)(Lf:LS)(m t wn:Nat)(L:LS):Prop:=Fc V t L∧(((L.wt wn).l=V.nl∧∃y ch,(L.wt wn).b.ch=y::ch∧Fin V Lf m (some (t,V.nl,some ⟨(L.wt wn).b.k,(L.wt wn).b.n,ch⟩)) (L.say t (-1) 2 y.n))∨
 (∃k:Nat,k<V.nl∧(V.ly k).k=1∧(L.wt wn).l=k∧Fin V Lf m (some (t,k+1,none)) L))
def LS.Nr(L:LS)(wn:Nat)(b:Bk):LS:={L with wt:=upd L.wt wn {L.wt wn with b:=b}}
structure pU{γ:Type}(E:TE γ)(kk:PK)(Lf:LS)(t:Nat):Prop where
 V:vU kk.V
 tn:t<kk.V.nc
 f:∀p,aC prog false (DX (E.Ok p)) (E.Ψ p)
 hB:∀p (a:Addr) (wr:Bool),E.Bd p≤a.block→E.Ok p a wr
 wait:∀(p:γ)(s:PS)(w:World)(i x:Nat)(en:Value)(eb:qP)(ly:Nat)(d:Int)(b:Bk)(c:Frame)(cs:List Frame)(R:List ah)(v:Value)(m:Nat),Gu t (E.s0 p) s→s.k=kk→ly≤kk.V.nl→i≤s.q.length→
  Sat (E.Ok p) w (pM (s.c8 t ly d i x en eb)++(jw (kk.T t) v false::bR x [ptr (kk.T t),i6 0]::(R++E.O p)))→PV (E.Ok p) (s.c8 t ly d i x en eb) (cy (s.c8 t ly d i x en eb))→QI (s.c8 t ly d i x en eb)→Flat (R++E.O p)→zA kk R→E.Bd p≤w.heap.size→Fin kk.V Lf m none ((s.l.wait t ly d).Nr s.l.wl b)→m≤E.sj p→
  (∀p' s' w' m',m'<m→m'≤E.sj p'→Cn E kk t p' s' w' v R→zC kk.V Lf m' t s.l.wl s'.l→(s'.l.wt s.l.wl).l=ly→(s'.l.wt s.l.wl).b=b→(s'.l.tk t).a=(s.l.tk t).a→s'.l.us t=s.l.us t→E.Ψ p' (G (c.finish (i6 1)) cs) w')→
  E.Ψ p (G (Frame.enter prog 153 #[ptr x] .normal) (c::cs)) w
section
variable{γ:Type}{E:TE γ}{kk:PK}{Lf:LS}{t:Nat}
theorem Jk(W:pU E kk Lf t){p:γ}{s:PS}{w:World}{v:Value}{R:List ah}(C:Cn E kk t p s w v R)(RX:0≤s.l.now∧s.l.now<1000000000000){d:Int}(hd:0≤d∧d≤100000)(b:Bk){m:Nat}(hf:Fin kk.V Lf m none ((s.l.wait t kk.V.nl d).Nr s.l.wl b))(AN:m≤E.sj p){c:Frame}{cs:List Frame}(K:∀p' s' w' m',m'<m→m'≤E.sj p'→Cn E kk t p' s' w' v R→zC kk.V Lf m' t s.l.wl s'.l→(s'.l.wt s.l.wl).l=(kk.V.nl:Int)→(s'.l.wt s.l.wl).b=b→(s'.l.tk t).a=(s.l.tk t).a→s'.l.us t=s.l.us t→E.Ψ p' (G (c.finish (.tuple #[])) cs) w'):
 E.Ψ p (G (Frame.enter prog 150 #[ptr (kk.T t),i6 d] .normal) (c::cs)) w:=by
 have F:=W.f p;have hB:=W.hB p;have vE:=C.bd;have hS:=C.au;refine iT f150 func150 _ rfl 8 (by kernel_rfl) hS fun bb a0 B1 hn af aJ aP S0 dH=>?_
 refine aD F hB af aP S0 3 [] [] [] [(5,i6 d),(4,ptr (kk.T t))] (fun M=>M) 0 3 [] [] fun a1 w1 S1 aG ck cV cW=>?_
 refine fT F af aG S1 6 152 #[ptr (kk.T t),i6 d] fun kP bK=>?_
 have cB:=C.hk;refine vq (t:=t) (aX:=kk.aX t) (ly:=kk.V.nl) F hB S1.au (by rw[cB];exact((C.jH.qb t W.tn).pre _).cons) C.pv C.qi (C.fl.cons rfl) (by omega) C.ql (by omega) (by omega) fun i x en eb w2 h2 qU Q2 hi Uz Rp=>bK _ _ _ h2 fun a2 B2 S2 aW dV=>?_
 refine OZ F af aW 7 153 #[ptr x] (by kernel_rfl) (by kernel_rfl) (by decide) S2 fun zN AZ=>?_
 refine W.wait p s w2 i x en eb kk.V.nl d b zN _ R v m C.gu C.hk (Nat.le_refl _) hi (Sat.Zf (A:=pM (s.c8 t kk.V.nl d i x en eb)) S2.au) qU Q2 C.fl C.jH (by omega) hf AN fun p' s' w3 m' uR dr C' f1 f2 f3 f4 f5=>AZ.ret _ _ _ _ _ C'.au fun a3 B3 S3 bD eu=>?_
 have xh:=C'.bd;replace F:=W.f p';replace hB:=W.hB p';refine aD F hB af bD S3 1 [] [] [] [] (fun M=>M) 0 6 [] [] fun a4 w4 S4 fC oJ Ay U4=>?_
 refine dA F S4 af aJ fC [] (.tuple #[]) ?_;exact K p' s' w4 m' uR dr {C' with au:=S4.au,bd:=by omega} f1 f2 f3 f4 f5
end
end
end Go.Proofs.YtobagnjnbmgidaaGreatDoor
