import Derived.Test.YtobagnjnbmgidaaGreatDoorL5
set_option linter.all false
set_option maxHeartbeats 8000000
set_option maxRecDepth 100000
namespace Go.Proofs.YtobagnjnbmgidaaGreatDoor
open Go.Conc Go.RowKit Tryz
def SM(_ j:Nat):Int:=match j with|0=>1|1=>7|_=>3
def hT2(i j:Nat):Int:=match i,j with|0,0=>2|0,1=>1|0,_=>2|1,0=>2|1,1=>2|1,_=>0|_,0=>2|_,1=>3|_,_=>1
def IC(_ j:Nat):Int:=match j with|0=>1|1=>3|2=>10|3=>2|4=>15|_=>0
def rj(i j:Nat):Int:=match i,j with|0,0=>2|1,0=>11|_,_=>0
abbrev E9(t:Nat)(_:Nat):Cl:=⟨5,some ⟨t,0,none⟩,1,1,SM⟩
abbrev E8(t:Nat)(_:Nat):Cl:=⟨0,some ⟨t,0,none⟩,3,3,hT2⟩
abbrev V1:Ev0:=qF 0 rj 1 (E9 0)
abbrev V2:Ev0:=qF 1 IC 1 (E8 0)
def F1:LS:=(pN V1 10 none (mK V1 1)).getD (mK V1 1)
def F2:LS:=(pN V2 30 none (mK V2 1)).getD (mK V2 1)
theorem OI:(pN V1 10 none (mK V1 1)).isSome=true∧F1.ou 0=⟨8,⟨1,7,[]⟩⟩∧F1.el=2:=⟨by kernel_rfl,by kernel_rfl,by kernel_rfl⟩
theorem Td:(pN V2 30 none (mK V2 1)).isSome=true∧F2.ou 0=⟨28,⟨2,0,[⟨7,0,0⟩,⟨1,-1,3⟩]⟩⟩:=⟨by kernel_rfl,by kernel_rfl⟩
theorem fn1:Fin V1 F1 10 none (mK V1 1):=lm _ _ _ (by unfold F1;cases h:pN V1 10 none (mK V1 1) with|none=>have:=OI.1;rw[h] at this;cases this|some x=>rfl)
theorem fn2:Fin V2 F2 30 none (mK V2 1):=lm _ _ _ (by unfold F2;cases h:pN V2 30 none (mK V2 1) with|none=>have:=Td.1;rw[h] at this;cases this|some x=>rfl)
theorem ck0(g:Nat→Cl):iK 2 rj 0 g=(2,1):=by kernel_rfl
theorem ck1(t:Nat):iK 0 rj 1 (E9 t)=(0,0):=by kernel_rfl
theorem ck2(t:Nat):iK 1 IC 1 (E8 t)=(0,0):=by kernel_rfl
theorem Sat.X7{Ok:Addr→Bool→Prop}{w:World}{nb:Nat}{L:List iO}{M:List ah}(h1:Sat Ok w (bR nb (qn L)::M)):Sat Ok w (iL ⟨nb,0,none⟩ L::M):=by
 have hv:=(sat_iff.1 h1).1 _ (List.mem_cons_self ..);have G0:=List.pairwise_cons.1 (sat_iff.1 h1).2;have key:∀j f,j<L.length→f<3→(bR nb (qn L)).has (0,j*3+f):=fun j f h2 h3=>⟨Nat.zero_lt_one,by show _<(qn L).length;rw[mW];omega⟩
 have OO:∀j f:Nat,(iL ⟨nb,0,none⟩ L).ad (j,f)=(bR nb (qn L)).ad (0,j*3+f):=fun j f=>by
  show((⟨nb,0,none⟩:Addr).add (j*3)).add f=⟨nb,j*3+f,none⟩
  rw[add_add]
 refine sat_iff.2 ⟨fun r hr=>?_,List.pairwise_cons.2 ⟨fun r hr hw j j' hj bP e=>?_,G0.2⟩⟩
 ·rcases List.mem_cons.1 hr with rfl|hr
  ·refine oZ rfl rfl (fun j hj=>?_) (fun j hj=>?_)
   ·obtain⟨j,f⟩:=j
    rw[OO,hv.val _ (key j f hj.1 hj.2)]
    congr 1
    have h6:=r9 L j f hj.1 hj.2;have hl:j*3+f<(qn L).length:=(key j f hj.1 hj.2).2;unfold ah.get;cases hc:qn L with
    |nil=>rw[hc] at hl;simp at hl
    |cons v vs=>
     simp only
     rw[←hc,List.getD_eq_getElem?_getD,h6];rfl
   ·obtain⟨j,f⟩:=j
    rw[OO];exact(hv.ok _ (key j f hj.1 hj.2)).1
  ·exact(sat_iff.1 h1).1 r (List.mem_cons_of_mem _ hr)
 ·obtain⟨j,f⟩:=j
  rw[OO] at e;exact G0.1 r hr (.inl rfl) _ j' (key j f hj.1 hj.2) bP e
theorem Sat.Ye{Ok:Addr→Bool→Prop}{w:World}{b:Nat}{vs:List Value}{M:List ah}(h:Sat Ok w M)(hv:∀j,j<vs.length→w.cell? ⟨b,j,none⟩=some (vs.getD j undef))(ho:∀j wr,Ok ⟨b,j,none⟩ wr)(hf:∀j,j<vs.length→w.frozen? ⟨b,j,none⟩=false)(hd:∀r∈M,∀j,r.has j→∀i,i<vs.length→r.ad j≠⟨b,i,none⟩):Sat Ok w (bR b vs::M):=by
 refine sat_iff.2 ⟨fun r hr=>?_,List.pairwise_cons.2 ⟨fun r hr hw j j' hj bP e=>?_,(sat_iff.1 h).2⟩⟩
 ·rcases List.mem_cons.1 hr with rfl|hr
  ·refine⟨fun j hj=>?_,fun j hj=>⟨ho _ _,fun _=>⟨ho _ _,hf _ hj.2⟩⟩,fun _ j j' hj bP e=>?_,fun g e n z=>(by cases z)⟩
   ·rw[show(bR b vs).ad j=⟨b,j.2,none⟩ from rfl,hv j.2 hj.2]
    congr 1
    have hl:j.2<vs.length:=hj.2;unfold ah.get;cases hc:vs with
    |nil=>rw[hc] at hl;simp at hl
    |cons v l=>rfl
   ·have h1:j.1<1:=hj.1
    have h2:j'.1<1:=bP.1;have h3:(⟨b,j.2,none⟩:Addr)=⟨b,j'.2,none⟩:=e;simp only[Addr.mk.injEq,true_and,and_true] at h3;exact Prod.ext (by omega) h3
  ·exact(sat_iff.1 h).1 r hr
 ·exact hd r hr j' bP j.2 hj.2 e.symm
section
variable{Post:Value→World→Prop}{wI:World}
theorem Hg{w:World}(hg:wI.cell? ⟨0,0,none⟩=some (.iface 217 (.agg #[.pointer (some ⟨1,121,none⟩)])))(i0:0<wI.heap.size)(hO:Old wI w){cf:Frame}{cs:List Frame}(K:∀l' lQ w',0<lQ→(∀x∈l',wI.heap.size≤x∧x<w'.heap.size)→Old wI w'→qa prog Post (Old wI) (jQ l') lQ (G (cf.finish (.bool true)) cs) w'):qa prog Post (Old wI) (jQ []) 1 (G (Frame.enter prog 15 #[] .normal) (cf::cs)) w:=by
 have F:=rP (P:=prog) (Post:=Post) (wI:=wI) (l:=[]) 1;have tJ:wI.heap.size≤w.heap.size:=hO.2.2.2.1;have hB:∀(a:Addr)(wr:Bool),w.heap.size≤a.block→cQ wI.heap.size [] [] a wr:=fun a wr z=>iM (fun x hx=>by cases hx) tJ z wr
 have hS:Sat (cQ wI.heap.size [] []) w []:=nY fun r hr=>by cases hr
 have ey:w.heap.size≤w.heap.size:=Nat.le_refl _;generalize UX:w.heap.size=B at hB ey tJ;rw[←UX] at ey;replace ey:B≤w.heap.size:=by omega
 refine iT f15 func15 _ rfl 110 (by kernel_rfl) hS fun bb a0 B1 hn af aJ aP S0 dH=>?_
 refine aD F hB af aP S0 9 [] [] [] [(12,.slice (some ⟨B1,0,none⟩) 2 2)] (fun M=>bR (B1) [i6 2,i6 0,i6 0,i6 0,i6 0,i6 0,i6 11,i6 0,i6 0,i6 0,i6 0,i6 0]::(M)) 1 9 [] [] fun a1 w1 S1 aG ck cV cW=>?_
 refine fT F af aG S1 13 16 #[.slice (some ⟨B1,0,none⟩) 2 2,.slice none 0 0] fun kP bK=>?_
 have pI:jR w1 (some ⟨B1,0,none⟩) 2 rj:=fun i hi=>⟨B1,0,rfl,fun j hj=>by
  have:=S1.au.val 0 _ rfl (0,i*6+j) ⟨Nat.zero_lt_one,by show i*6+j<12;omega⟩;rw[show(⟨B1,0+i*6+j,none⟩:Addr)=⟨B1,i*6+j,none⟩ by congr 1;omega];refine this.trans (congrArg some ?_);have dJ:i=0∨i=1:=by omega
  have bP:j=0∨j=1∨j=2∨j=3∨j=4∨j=5:=by omega
  rcases dJ with rfl|rfl<;>rcases bP with rfl|rfl|rfl|rfl|rfl|rfl<;>rfl⟩
 refine sF (Ok:=cQ wI.heap.size [] []) w1.heap.size 2 2 0 0 (some ⟨B1,0,none⟩) none rj (E9 0) w1 (Nat.le_refl _) pI (fun i hi=>by omega) (fun p hp a ha=>kr (by simp)) ⟨fun p hp=>(by cases hp),fun i hi=>(by omega)⟩ (fun a wr z=>iM (N:=w1.heap.size) (fun x hx=>by cases hx) (by omega) z wr) _ F _ _ fun v w2 hp=>?_
 obtain⟨rfl,k2⟩:=hp;rw[ck0];have Py:=k2.size;refine bK _ _ _ (S1.au.JR k2) fun a2 B2 S2 aW dV=>?_
 refine aD F hB af aW S2 24 [] [1,1,1] [] [(26,.slice (some ⟨B2+1,0,none⟩) 1 1)] (fun M=>bR (B2+1) [i6 5,.slice (some ⟨B2,0,none⟩) 1 1]::(bR (B2) [i6 1,i6 7,i6 3]::(M))) 2 34 [false] [] fun a3 w3 S3 bD eu fS gD=>?_
 have Sx:jF w3 (some ⟨B2+1,0,none⟩) 1 (E9 B2):=fun i hi=>by
  have e:i=0:=by omega
  subst e;refine⟨B2+1,0,rfl,S3.au.val 0 _ rfl (0,0) ⟨Nat.zero_lt_one,(by decide:0<2)⟩,S3.au.val 0 _ rfl (0,1) ⟨Nat.zero_lt_one,(by decide:1<2)⟩,fun j hj=>?_⟩;have e:j=0:=by simp only at hj;omega
  subst e;refine⟨B2,0,rfl,fun k hk=>?_⟩;have:=S3.au.val 1 _ rfl (0,k) ⟨Nat.zero_lt_one,hk⟩;rw[show(⟨B2,0+0*3+k,none⟩:Addr)=⟨B2,k,none⟩ by congr 1;omega];refine this.trans (congrArg some ?_);have gB:k=0∨k=1∨k=2:=by omega
  rcases gB with rfl|rfl|rfl<;>rfl
 have RE:∀N:Nat,Qi (cQ N [] []) (some ⟨B2+1,0,none⟩) 1 (E9 B2):=fun N=>⟨fun p hp a ha=>kr (by simp),fun i hi h0 p hp a ha=>kr (by simp)⟩
 refine EJ F af 27 24 #[.slice none 0 0,.slice (some ⟨B2+1,0,none⟩) 1 1] (by kernel_rfl) (by kernel_rfl) (by decide) S3 fun cR El=>?_
 refine At.assume ig fun SN=>?_
 have Xx:Sat (cQ wI.heap.size [] []) w3 (cM (some ⟨B2+1,0,none⟩) 1 (E9 B2)):=Ab Sx (SN.cell _ _ hg) (RE _) (kr (by simp));have Od:∀r∈cM (some ⟨B2+1,0,none⟩) 1 (E9 B2),Has (cM (some ⟨B2+1,0,none⟩) 1 (E9 B2)) r:=fun r hr=>lg hr (pS r hr)
 have P4:=vV V1 1;refine Ad (V:=qF 0 rj 1 (E9 B2)) (L:=mK V1 1) (Lf:=F1) (m:=10) (M:=cM (some ⟨B2+1,0,none⟩) 1 (E9 B2)) (eH:=fun _=>some ⟨B2,0,none⟩) (fF:=fun _=>1) (sL:=none) (cg:=0) (sa:=some ⟨B2+1,0,none⟩) (cap:=1) (zU (ck1 B2) (fun i hi=>by omega)) ⟨P4.1,P4.2.1,fun i hi=>by rw[(P4.2.2.2.2.2.2.2 i hi).1];exact⟨rfl,rfl,rfl,rfl⟩,P4.2.2.2.2.2.1,P4.2.2.2.2.2.2.1,P4.2.2.2.2.1⟩ fn1 (by decide) (fun x hx=>by cases hx) ⟨fun r hr=>pS r hr,Ib,fun _=>⟨_,rfl,Od _ (List.mem_cons_of_mem _ (List.mem_cons_self ..))⟩,fun c hc _=>⟨_,rfl,?_⟩,Od _ (List.mem_cons_self ..)⟩ (fun z=>absurd z (Nat.lt_irrefl 0)) Xx (fun w' hf=>?_) fun ng1 A1 o1 P9 Tn tD C1 w4 k1 Pz k3 k3o k4 k5 k6 k7 k8 k9=>El _ _ _ fun a4 yf fC=>?_
 ·have e:c=0:=by have:c<1:=hc;omega
  subst e;exact Od (Pp (E9 B2) 0) (List.mem_cons_of_mem _ (List.mem_cons_of_mem _ (List.mem_map.2 ⟨0,List.mem_range.2 (by decide),rfl⟩)))
 ·have nP:=HH hf (fun r hr=>pS r hr)
  have:=sF (main:=true) (Ok:=cQ w3.heap.size [] []) w3.heap.size 0 0 1 1 none (some ⟨B2+1,0,none⟩) rj (E9 B2) w' nP.size (fun i hi=>by omega) (Bl Sx nP) (fun p hp=>by cases hp) (RE _) (fun a wr z=>iM (N:=w3.heap.size) (fun x hx=>by cases hx) (Nat.le_refl _) z wr);rw[ck1] at this;exact this
 clear F;have F:=rP (P:=prog) (Post:=Post) (wI:=wI) (l:=[A1]) ng1;have f1:=OI.2.1;have f2:=OI.2.2;replace fC:=fC.trans bD;have S4:St (cQ wI.heap.size [A1] []) w4.heap.size 110 [(27,.tuple #[.agg #[.slice (some ⟨o1,0,none⟩) 1 1,.slice P9 F1.el Tn],i6 0,i6 0])] (uz P9 F1.ev F1.el::ot (some ⟨o1,0,none⟩) F1.ou tD 1::C1) 0 a4 w4:=⟨yf.sub (by intro p hp;simp only[List.mem_cons,List.not_mem_nil,or_false] at hp;subst hp;rfl),k7,rfl⟩;have Wa:wI.heap.size≤w4.heap.size:=k5.2.2.2.1;have aam:w3.heap.size≤w4.heap.size:=k4.2.2.2.1;clear hB
 have hB:∀(a:Addr)(wr:Bool),w4.heap.size≤a.block→cQ wI.heap.size [A1] [] a wr:=fun a wr z=>iM (N:=w4.heap.size) (fun x hx=>by
  have e:x=A1:=by simpa using hx
  omega) Wa z wr
 have oJ:w4.heap.size=w4.heap.size:=rfl;clear yf k6 k7 k8 k9 El;generalize F1=X1 at S4 f1 f2;generalize hB4:w4.heap.size=B4 at S4 oJ hB;have t1:((X1.el:Int) !=2)=false:=by rw[f2];decide
 have t2:((X1.ou 0).a !=8)=false:=by rw[f1];decide
 have t3:((X1.ou 0).b.k !=1)=false:=by rw[f1];decide
 have t4:((X1.ou 0).b.n !=7)=false:=by rw[f1];decide
 refine cJ F hB af fC S4 73 [0,0,0,2,0,0,0,2,0,0,0,1,2,0,0,1,0,0,0,1,2,0,1,1,0,0,0,1,2,0,2,1] [1,1,1,1,1,1,1,1,0,1,1,2,1,1,1,0,1,1,2,1,1,1,0,1,1,2,1,1,1,0] [] [(79,.slice (some ⟨B4+3,0,none⟩) 1 1),(76,.slice (some ⟨B4+1,0,none⟩) 1 1),(3,ptr B4)] (fun M=>bR (B4+3) [i6 0,.slice (some ⟨B4+2,0,none⟩) 3 3]::(bR (B4+2) [i6 2,i6 1,i6 2,i6 2,i6 2,i6 0,i6 2,i6 3,i6 1]::(bR (B4+1) [i6 1,i6 3,i6 10,i6 2,i6 15,i6 0]::(bR (B4) [.slice (some ⟨o1,0,none⟩) 1 1,.slice P9 X1.el Tn]::(M))))) 4 108 [false,false] [] [((X1.ou 0).b.n !=7,false),((X1.ou 0).b.k !=1,false),((X1.ou 0).a !=8,false),((↑X1.el:Int) !=2,false)] [(0,1),(0,1),(0,1)] [] fun a5 w5 S5 dU jT kC rq=>?_
 clear t1 t2 t3 t4 f1 f2
 have Sw:jF w5 (some ⟨B4+3,0,none⟩) 1 (E8 (B4+2)):=fun i hi=>by
  have e:i=0:=by omega
  subst e;refine⟨B4+3,0,rfl,S5.au.val 0 _ rfl (0,0) ⟨Nat.zero_lt_one,(by decide:0<2)⟩,S5.au.val 0 _ rfl (0,1) ⟨Nat.zero_lt_one,(by decide:1<2)⟩,fun j hj=>?_⟩;have hj3:j<3:=hj;refine⟨B4+2,0,rfl,fun k hk=>?_⟩;have:=S5.au.val 1 _ rfl (0,j*3+k) ⟨Nat.zero_lt_one,by show j*3+k<9;omega⟩;rw[show(⟨B4+2,0+j*3+k,none⟩:Addr)=⟨B4+2,j*3+k,none⟩ by congr 1;omega];refine this.trans (congrArg some ?_);have gB:k=0∨k=1∨k=2:=by omega
  have bP:j=0∨j=1∨j=2:=by omega
  rcases bP with rfl|rfl|rfl<;>rcases gB with rfl|rfl|rfl<;>rfl
 have Sd:jR w5 (some ⟨B4+1,0,none⟩) 1 IC:=fun i hi=>⟨B4+1,0,rfl,fun j hj=>by
  have e:i=0:=by omega
  subst e;have:=S5.au.val 2 _ rfl (0,j) ⟨Nat.zero_lt_one,hj⟩;rw[show(⟨B4+1,0+0*6+j,none⟩:Addr)=⟨B4+1,j,none⟩ by congr 1;omega];refine this.trans (congrArg some ?_);have bP:j=0∨j=1∨j=2∨j=3∨j=4∨j=5:=by omega
  rcases bP with rfl|rfl|rfl|rfl|rfl|rfl<;>rfl⟩
 have yf:A1<B4:=by omega
 have RA:∀N:Nat,∀p:Addr,(some (⟨B4+1,0,none⟩:Addr))=some p→∀a:Addr,a.block=p.block→cQ N [A1] [] a false:=fun N p hp a ha=>kr (by cases hp;simp only[List.mem_cons,List.not_mem_nil,or_false];have:a.block=B4+1:=ha;omega)
 have RD:∀N:Nat,Qi (cQ N [A1] []) (some ⟨B4+3,0,none⟩) 1 (E8 (B4+2)):=fun N=>⟨fun p hp a ha=>kr (by cases hp;simp only[List.mem_cons,List.not_mem_nil,or_false];have:a.block=B4+3:=ha;omega),fun i hi h0 p hp a ha=>kr (by cases hp;simp only[List.mem_cons,List.not_mem_nil,or_false];have:a.block=B4+2:=ha;omega)⟩
 refine EJ F af 80 24 #[.slice (some ⟨B4+1,0,none⟩) 1 1,.slice (some ⟨B4+3,0,none⟩) 1 1] (by kernel_rfl) (by kernel_rfl) (by decide) S5 fun cR El=>?_
 refine At.assume ig fun hO5=>?_
 have aax:wI.heap.size≤A1:=by omega
 have UU:Sat (cQ wI.heap.size [A1] []) w5 (xW (some ⟨B4+1,0,none⟩) 1 IC::cM (some ⟨B4+3,0,none⟩) 1 (E8 (B4+2))):=nY fun r hr=>by
  rcases List.mem_cons.1 hr with rfl|hr
  ·exact⟨BE Sd (RA _),rfl⟩
  ·exact⟨(Ab Sw (hO5.cell _ _ hg) (RD _) (kr (by simp only[List.mem_cons,List.not_mem_nil,or_false];omega))).mem hr,pS r hr⟩
 have NW:∀r∈xW (some ⟨B4+1,0,none⟩) 1 IC::cM (some ⟨B4+3,0,none⟩) 1 (E8 (B4+2)),r.wr=false:=fun r hr=>by
  rcases List.mem_cons.1 hr with rfl|hr
  ·rfl
  ·exact pS r hr
 have Kb:∀r∈xW (some ⟨B4+1,0,none⟩) 1 IC::cM (some ⟨B4+3,0,none⟩) 1 (E8 (B4+2)),Has (xW (some ⟨B4+1,0,none⟩) 1 IC::cM (some ⟨B4+3,0,none⟩) 1 (E8 (B4+2))) r:=fun r hr=>lg hr (NW r hr)
 have Rp:∀x∈[A1],x<w5.heap.size:=fun x hx=>by
  have e:x=A1:=by simpa using hx
  omega
 have En:=vV V2 1;refine Ad (V:=qF 1 IC 1 (E8 (B4+2))) (L:=mK V2 1) (Lf:=F2) (m:=30) (M:=xW (some ⟨B4+1,0,none⟩) 1 IC::cM (some ⟨B4+3,0,none⟩) 1 (E8 (B4+2))) (eH:=fun _=>some ⟨B4+2,0,none⟩) (fF:=fun _=>3) (sL:=some ⟨B4+1,0,none⟩) (cg:=1) (sa:=some ⟨B4+3,0,none⟩) (cap:=1) (zU (ck2 (B4+2)) (fun i hi=>by show(1:Int)≤2;decide)) ⟨En.1,En.2.1,fun i hi=>by rw[(En.2.2.2.2.2.2.2 i hi).1];exact⟨rfl,rfl,rfl,rfl⟩,En.2.2.2.2.2.1,En.2.2.2.2.2.2.1,En.2.2.2.2.1⟩ fn2 k1 Rp ⟨NW,?_,fun _=>⟨_,rfl,Kb _ (List.mem_cons_of_mem _ (List.mem_cons_of_mem _ (List.mem_cons_self ..)))⟩,fun c hc _=>⟨_,rfl,?_⟩,Kb _ (List.mem_cons_of_mem _ (List.mem_cons_self ..))⟩ (fun _=>⟨_,rfl,Kb _ (List.mem_cons_self ..)⟩) UU (fun w' hf=>?_) fun Zp A2 o2 U6 U5 rH C2 w6 j1 j2 j3 j3o j4 j5 j6 j7 j8 j9=>El _ _ _ fun a6 P5 kF=>?_
 ·rw[cN]
  intro r hr;rcases List.mem_cons.1 hr with rfl|hr
  ·rfl
  ·exact(cN.1 Ib) r hr
 ·have e:c=0:=by have:c<1:=hc;omega
  subst e;exact Kb (Pp (E8 (B4+2)) 0) (List.mem_cons_of_mem _ (List.mem_cons_of_mem _ (List.mem_cons_of_mem _ (List.mem_map.2 ⟨0,List.mem_range.2 (by decide),rfl⟩))))
 ·have nP:=HH hf NW
  have:=sF (main:=true) (Ok:=cQ w5.heap.size [A1] []) w5.heap.size 1 1 1 1 (some ⟨B4+1,0,none⟩) (some ⟨B4+3,0,none⟩) IC (E8 (B4+2)) w' nP.size (BZ ((UU.keep nP).mem (List.mem_cons_self ..)) (fun _=>⟨_,_,rfl⟩)) (Bl Sw nP) (RA _) (RD _) (fun a wr z=>iM (N:=w5.heap.size) (fun x hx=>by
   have e:x=A1:=by simpa using hx
   omega) (Nat.le_refl _) z wr)
  rw[ck2] at this;exact this
 have f1:=Td.2;replace kF:=kF.trans dU;have V9:wI.heap.size≤w6.heap.size:=j5.2.2.2.1;have aal:w5.heap.size≤w6.heap.size:=j4.2.2.2.1;have ho2:w5.heap.size≤o2:=j3o Nat.zero_lt_one
 obtain⟨ca,cap,i,eh,hci⟩:∃ca cap i,rH 0=.slice (some ca) 2 cap∧nth C2 i=some (iL ca [⟨7,0,0⟩,⟨1,-1,3⟩]):=by
  have:=j9 0 Nat.zero_lt_one;rw[f1] at this;rcases this with ⟨_,z⟩|z
  ·cases z
  ·exact z
 have h6:Sat (cQ wI.heap.size [A2,A1] []) w6 [ot (some ⟨o2,0,none⟩) F2.ou rH 1,iL ca [⟨7,0,0⟩,⟨1,-1,3⟩]]:=j7.fZ fun k r hr=>by
  match k,hr with
  |0,hr=>cases hr;exact⟨rfl,1,rfl⟩
  |1,hr=>cases hr;exact⟨rfl,i+1+1,hci⟩
 have XJ:=h6.Jx 0 rfl (fR ⟨o2,0,none⟩ 4 (fun _=>[i6 28,i6 2,i6 0,.slice (some ca) 2 cap]) 1 false) (fun j hj=>⟨hj,rfl,by
  have e:j.1=0:=by have:j.1<1:=hj.1;omega
  show List.getD [i6 28,i6 2,i6 0,.slice (some ca) 2 cap] j.2 undef=(zF (F2.ou j.1,rH j.1)).getD j.2 undef
  rw[e,eh,f1];rfl⟩) (fun z=>by cases z) rfl
 have hw5:w5.heap.size=B4+4:=jT
 have ZA:∀j,j<2→w6.cell? ⟨B4,j,none⟩=some ([Value.slice (some ⟨o1,0,none⟩) 1 1,.slice P9 X1.el Tn].getD j undef):=fun j hj=>by
  refine j4.cell _ _ ?_;have:=S5.au.val 3 _ rfl (0,j) ⟨Nat.zero_lt_one,hj⟩;refine this.trans (congrArg some ?_);have bP:j=0∨j=1:=by omega
  rcases bP with rfl|rfl<;>rfl
 have lf:w6.heap[B4]? =w5.heap[B4]? :=j4.2.2.2.2 B4 (by omega)
 have h7:Sat (cQ wI.heap.size [A2,A1] []) w6 (bR B4 [.slice (some ⟨o1,0,none⟩) 1 1,.slice P9 X1.el Tn]::[fR ⟨o2,0,none⟩ 4 (fun _=>[i6 28,i6 2,i6 0,.slice (some ca) 2 cap]) 1 false,iL ca [⟨7,0,0⟩,⟨1,-1,3⟩]]):=by
  refine XJ.Ye ZA (fun j wr=>⟨?_,fun _=>⟨by show wI.heap.size≤B4;omega,fun⟨p,hp,z⟩=>by cases hp⟩⟩) (fun j hj=>?_) (fun r hr k hk i hi e=>?_)
  ·exact(kr (N0:=0) (l:=[A2,A1]) (a:=⟨B4,j,none⟩) (by simp only[List.mem_cons,List.not_mem_nil,or_false];omega)).1
  ·have h0:=((S5.au.ok 3 _ rfl (0,j) ⟨Nat.zero_lt_one,hj⟩).2 rfl).2
   exact(World.frozen?_of_block lf).trans h0
  ·have hc:=ZA i hi
   rcases List.mem_cons.1 hr with rfl|hr
   ·have hb:(((⟨o2,0,none⟩:Addr).add (k.1*4)).add k.2).block=B4:=congrArg Addr.block e
    rw[add_add] at hb;have zK:o2=B4:=hb;omega
   ·have hr:=List.mem_singleton.1 hr
    subst hr;have E5:=(XJ.mem (List.mem_cons_of_mem _ (List.mem_cons_self ..))).val k hk;rw[e,hc] at E5;obtain⟨Uu,Pz⟩:=k;have kE:Uu<2:=hk.1;have bE:Pz<3:=hk.2;have dJ:i=0∨i=1:=by have:i<2:=hi;omega
    have AP:Uu=0∨Uu=1:=by omega
    have WU:Pz=0∨Pz=1∨Pz=2:=by omega
    rcases dJ with rfl|rfl<;>rcases AP with rfl|rfl<;>rcases WU with rfl|rfl|rfl<;>cases E5
 clear F;have F:=rP (P:=prog) (Post:=Post) (wI:=wI) (l:=[A2,A1]) Zp;clear hB
 have Zy:∀x∈[A2,A1],wI.heap.size≤x∧x<w6.heap.size:=fun x hx=>by
  simp only[List.mem_cons,List.not_mem_nil,or_false] at hx;rcases hx with rfl|rfl<;>omega
 have hB:∀(a:Addr)(wr:Bool),w6.heap.size≤a.block→cQ wI.heap.size [A2,A1] [] a wr:=fun a wr z=>iM (N:=w6.heap.size) (fun x hx=>(Zy x hx).2) V9 z wr
 have S6:St (cQ wI.heap.size [A2,A1] []) w6.heap.size 110 [(80,.tuple #[.agg #[.slice (some ⟨o2,0,none⟩) 1 1,.slice U6 F2.el U5],i6 0,i6 0]),(3,ptr B4)] (bR B4 [.slice (some ⟨o1,0,none⟩) 1 1,.slice P9 X1.el Tn]::[fR ⟨o2,0,none⟩ 4 (fun _=>[i6 28,i6 2,i6 0,.slice (some ca) 2 cap]) 1 false,iL ca [⟨7,0,0⟩,⟨1,-1,3⟩]]) 0 a6 w6:=⟨P5.sub (by intro p hp;simp only[List.mem_cons,List.not_mem_nil,or_false] at hp;rcases hp with rfl|rfl<;>rfl),h7,rfl⟩;have xX:w6.heap.size=w6.heap.size:=rfl;have Ro:∀w':World,w6.heap.size≤w'.heap.size→∀x∈[A2,A1],wI.heap.size≤x∧x<w'.heap.size:=fun w' hw x hx=>by have:=Zy x hx;omega
 clear P5 j6 j7 j8 j9 El h7 h6 XJ f1;generalize F2.el=XU at S6;generalize hB6:w6.heap.size=B6 at S6 xX hB Ro;refine cJ F hB af kF S6 44 [0,0,0,2,1,0,0,1,1,0,0,1,2,0,0,1,1,0,0,1,2,0,3,1] [1,1,1,1,1,1,1,2,1,1,1,1,2] [] [(108,.slice (some ⟨B6,0,none⟩) 2 2),(107,.slice (some ca) 2 cap)] (fun M=>bR (B6) [i6 7,i6 0,i6 0,i6 1,i6 (-1),i6 3]::(gH 0 (0,1) (.slice U6 XU U5) (gH 0 (0,0) (.slice (some ⟨o2,0,none⟩) 1 1) (M)))) 1 153 [false,false,false] [] [] [(0,1),(0,1)] [] fun a7 w7 S7 lN ur Ea Kt=>?_
 refine fT F af lN S7 109 25 #[.slice (some ca) 2 cap,.slice (some ⟨B6,0,none⟩) 2 2] fun cf7 Ho=>?_
 refine BF F hB (M:=[bR B4 [.slice (some ⟨o2,0,none⟩) 1 1,.slice U6 XU U5],fR ⟨o2,0,none⟩ 4 (fun _=>[i6 28,i6 2,i6 0,.slice (some ca) 2 cap]) 1 false]) (L:=[⟨7,0,0⟩,⟨1,-1,3⟩]) (by decide) ((Sat.X7 (nb:=B6) (L:=[⟨7,0,0⟩,⟨1,-1,3⟩]) (M:=[bR B4 [.slice (some ⟨o2,0,none⟩) 1 1,.slice U6 XU U5],fR ⟨o2,0,none⟩ 4 (fun _=>[i6 28,i6 2,i6 0,.slice (some ca) 2 cap]) 1 false,iL ca [⟨7,0,0⟩,⟨1,-1,3⟩]]) S7.au).perm ?_) (by omega) fun w8 h8 JW=>Ho _ _ _ h8 fun a8 B8 S8 qZ ET=>?_
 ·exact(List.perm_append_comm (l₁:=[_,_,_]) (l₂:=[_]))
 refine aD F hB af qZ S8 2 [] [] [] [(0,.bool true)] (fun M=>M) 0 156 [false,false,false] [] fun a9 w9 S9 oC PA Rl Mj=>?_
 refine dA F S9 af aJ oC [] (.bool true) ?_;exact At.assume ig fun hO9=>K [A2,A1] Zp w9 j1 (Ro w9 (by omega)) hO9
end
theorem zX{P:Program}{b:Frame}{a:Act}{fn:Func}{todo:List Item}{w:World}{v:Value}(hn:b.kind=.normal)(hi:P.inits.idxOf? b.fn=none)(hd:a.defers=[])(hf:P.funcs[b.fn]? =some fn)(hr:(results fn a.tmps).run P w=.ok v w)(he:(results fn a.tmps).events P w #[]=#[]):
 stepG P true (G {b.at a todo with mode:=.returning} []) w=.ended (.done v) w #[]:=by
 simp[G,stepG,unwind,doReturn,Frame.at,hn,hd,hf,hr,he,hi,seen,GStep.after]
theorem JJ:prog.inits.idxOf? 6=none:=by kernel_rfl
section
variable{Post:Value→World→Prop}{wI:World}{s0 sa:Option Addr}{n m:Nat}{L:Nat→Nat→Int}{g:Nat→Cl}
theorem upto_at(H:ER wI s0 n L sa m g){c0 cap:Nat}{w:World}(hO:Old wI w){cf:Frame}{cs:List Frame}(K:∀l' lQ w',0<lQ→(∀x∈l',x<w'.heap.size)→Old wI w'→qa prog Post (Old wI) (jQ l') lQ (G (cf.finish (.bool true)) cs) w'):qa prog Post (Old wI) (jQ []) 1 (G (Frame.enter prog 21 #[.slice s0 n c0,.slice sa m cap,i6 2] .normal) (cf::cs)) w:=by
 have F:=rP (P:=prog) (Post:=Post) (wI:=wI) (l:=[]) 1;have tJ:wI.heap.size≤w.heap.size:=hO.2.2.2.1;have hB:∀(a:Addr)(wr:Bool),w.heap.size≤a.block→cQ wI.heap.size [] [] a wr:=fun a wr z=>iM (fun x hx=>by cases hx) tJ z wr
 have hS:Sat (cQ wI.heap.size [] []) w []:=nY fun r hr=>by cases hr
 have ey:w.heap.size≤w.heap.size:=Nat.le_refl _;generalize UX:w.heap.size=B at hB ey tJ;rw[←UX] at ey;replace ey:B≤w.heap.size:=by omega
 refine iT f21 func21 _ rfl 69 (by kernel_rfl) hS fun bb a0 B1 hn af aJ aP S0 dH=>?_
 refine aD F hB af aP S0 6 [] [] [] [(0,.slice s0 n c0),(1,.slice sa m cap),(2,i6 2)] (fun M=>M) 0 6 [] [] fun a1 w1 S1 aG ck cV cW=>?_
 refine EJ F af 17 15 #[] (by kernel_rfl) (by kernel_rfl) (by decide) S1 fun cR El=>?_
 refine At.assume ig fun Xw=>?_
 refine Hg H.hg H.i0 Xw fun l' lQ w' xZ dr SO=>El _ _ _ fun a2 eG aW=>?_
 refine MT (gk:=cap) (c0:=c0) H xZ af aJ dr SO (aW.trans aG) (eG.sub ?_) K;intro p hp;simp only[List.mem_cons,List.not_mem_nil,or_false] at hp;rcases hp with rfl|rfl|rfl|rfl<;>rfl
theorem FJ(H:ER wI s0 n L sa m g){c0 cap:Nat}(hP:∀w',Old wI w'→Post (.bool true) w'):qa prog Post (Old wI) (jQ []) 1 (G (Frame.enter prog 6 #[.slice s0 n c0,.slice sa m cap] .normal) []) wI:=by
 have F:=rP (P:=prog) (Post:=Post) (wI:=wI) (l:=[]) 1;have hB:∀(a:Addr)(wr:Bool),wI.heap.size≤a.block→cQ wI.heap.size [] [] a wr:=fun a wr z=>iM (fun x hx=>by cases hx) (Nat.le_refl _) z wr
 have hS:Sat (cQ wI.heap.size [] []) wI []:=nY fun r hr=>by cases hr
 have ey:wI.heap.size≤wI.heap.size:=Nat.le_refl _;refine iT f6 func6 _ rfl 8 (by kernel_rfl) hS fun bb a0 B1 hn af aJ aP S0 dH=>?_
 refine aD F hB af aP S0 8 [] [] [] [(6,.slice sa m cap),(5,.slice s0 n c0)] (fun M=>M) 0 8 [] [] fun a1 w1 S1 aG ck cV cW=>?_
 refine EJ F af 7 21 #[.slice s0 n c0,.slice sa m cap,i6 2] (by kernel_rfl) (by kernel_rfl) (by decide) S1 fun cR El=>?_
 refine At.assume ig fun Xw=>?_
 refine upto_at H Xw fun l' lQ w' xZ dr SO=>El _ _ _ fun a2 eG aW=>?_
 clear F;have F:=rP (P:=prog) (Post:=Post) (wI:=wI) (l:=l') lQ;have Hw:Sat (cQ wI.heap.size l' []) w' []:=nY fun r hr=>by cases hr
 have S2:St (cQ wI.heap.size l' []) w'.heap.size 8 [(7,.bool true)] [] 0 a2 w':=⟨eG.sub (by intro p hp;simp only[List.mem_cons,List.not_mem_nil,or_false] at hp;subst hp;rfl),Hw,rfl⟩;have dV:w'.heap.size=w'.heap.size:=rfl;clear hB;have hB:∀(a:Addr)(wr:Bool),w'.heap.size≤a.block→cQ wI.heap.size l' [] a wr:=fun a wr z=>iM (N:=w'.heap.size) dr SO.2.2.2.1 z wr
 replace aW:=aW.trans aG;refine aD F hB af aW S2 2 [] [] [] [(4,.bool true)] (fun M=>M) 0 11 [] [] fun a3 w3 S3 bD eu fS gD=>?_
 have AD:∀t:List Item,qa prog Post (Old wI) (jQ l') lQ (G {bb.at a3 t with mode:=.returning} []) w3:=fun t=>by
  have hv:a3.tmps.getD 4 undef=.bool true:=by rw[Array.getD_eq_getD_getElem?,S3.env.val 4 (.bool true) rfl];rfl
  have hr:=resultsC_tmp (P:=prog) (fn:=f6) (t:=4) (by rfl) a3.tmps;rw[hv] at hr;refine At.Tk (v:=.bool true) (es:=#[]) rfl (fun d=>?_) (by simp) (fun d hK=>hP _ hK) ig;exact zX af (by rw[aJ];exact JJ) bD (by rw[aJ];exact func6) (hr _).1 (hr _).2
 exact F.ctl (fun _=>stepG_ret') (AD _)
end
end Go.Proofs.YtobagnjnbmgidaaGreatDoor
