import Derived.Test.YtobagnjnbmgidaaGreatDoorB9
set_option linter.all false
set_option maxHeartbeats 8000000
set_option maxRecDepth 100000
namespace Go.Proofs.YtobagnjnbmgidaaGreatDoor
section
open Go.Conc Go.RowKit Tryz
theorem Sat.zW{N:Nat}{l:List Nat}{st:List (Addr×Value)}{w:World}{M:List ah}(h:Sat (cQ N l []) w M)(hr:∀p∈st,∃r∈M,r.wr=false∧∃j,r.has j∧r.ad j=p.1):Sat (cQ N l st) w M:=by
 refine h.Px (fun r _ j _ o=>⟨o.1,fun z=>by cases z⟩) (fun r hm hw j hj o=>⟨o.1,fun _=>⟨(o.2 rfl).1,fun⟨p,hp,e⟩=>?_⟩⟩);obtain⟨r',h1,h2,j',h3,h4⟩:=hr p hp;simp only[Loc.cell.injEq] at e;exact h.dj hm h1 hw h2 hj h3 (by rw[e,h4])
theorem PV.zW{N:Nat}{l:List Nat}{st:List (Addr×Value)}{s:PS}{es:List (Int×Value)}(P:PV (cQ N l []) s es)(L4:s.ea=none)(hE:s.eb.c=1→∀p∈st,p.1.block≠s.eb.E):PV (cQ N l st) s es:=by
 refine⟨⟨P.jr.row,P.jr.le,P.jr.mx,fun a ha=>?_⟩,P.en,fun hc=>⟨(P.eo hc).1,fun a wr hb=>?_⟩⟩
 ·rw[L4] at ha;cases ha
 ·have o:=(P.eo hc).2 a wr hb
  refine⟨o.1,fun z=>⟨(o.2 z).1,fun⟨p,hp,e⟩=>?_⟩⟩;simp only[Loc.cell.injEq] at e;exact hE hc p hp (by rw[←e];exact hb)
section
variable{Post:Value→World→Prop}{w0:World}{l:List Nat}{ng:Nat}
theorem QH{V:Ev0}{L Lf:LS}{m:Nat}(hV:vU V)(hL:Bs V L)(hf:Fin V Lf m none L)(xZ:0<ng)(hl:∀x∈l,x<w0.heap.size){A J HD O cap rs bl bo bU bS:Nat}{lb:Nat→Nat}{sa:Option Addr}{eH:Nat→Option Addr}{fF:Nat→Nat}{f:Bg}{X M:List ah}{bb:Frame}{cf:Frame}{cs:List Frame}{a1:Act}{w1:World}{B1:Nat}{q:List Nat}{en:Value}{eb:qP}(af:bb.kind=.normal)(aJ:bb.fn=24)(hA:w0.heap.size≤A)(hAB:A<B1)(hw:w0.heap.size≤bU)(he:w0.heap.size≤bS)(aN:bU≠bS)(aG:a1.defers=[])(ck:w1.heap.size=B1)(hI:Ub V bU bS f V.nc w1)(hM:T2 V sa eH fF M)(PY:Flat X)(SK:∀r∈X,r.wr=false)(hS:Bp V lb J 0 (X++M))(jM:Has X (Fb (lb V.nl) .nilIface (-1) J))(fK:Has X (oR (lb V.nl) 3 [.slice sa V.nc cap,.slice (some ⟨HD,0,none⟩) V.nc V.nc] false))(hK:K2 w0 A (CU bU bS f V.nc) w1)(hP:PV (cQ w0.heap.size (A::l) []) (jx (qo A J HD O V lb sa cap eH fF bU bS) L f V.nc q en eb) (cy (jx (qo A J HD O V lb sa cap eH fF bU bS) L f V.nc q en eb)))(hQ:QI (jx (qo A J HD O V lb sa cap eH fF bU bS) L f V.nc q en eb))(hq:q.length=V.nc)(S1:St (cQ w0.heap.size (A::l) []) B1 53 [(47,ptr A),(11,ptr bo),(9,ptr J),(4,ptr rs)] (pM (jx (qo A J HD O V lb sa cap eH fF bU bS) L f V.nc q en eb)++(oR A 2 [i6 V.nc] true::(sO f V.nc++(u6 A bl bo f V.nc++(oR A 3 [.chan (some bU),.chan (some bS)] false::oR bo 0 [.slice (some ⟨O,0,none⟩) V.nc V.nc] false::oR bl 0 [tG V lb 0] false::bR rs [.slice none 0 0,.slice none 0 0]::(X++M)))))) 0 a1 w1)(K:∀(cR:Frame)(lQ:Nat)(s:PS)(Y:List ah)(w':World),0<lQ→s.k=(Ll w0 l (qo A J HD O V lb sa cap eH fF bU bS) f cR (cf::cs) X M rs bl bo Lf).k→s.l=Lf→Old w0 w'→Sat (cQ w0.heap.size (A::l) []) w' (bR rs [.slice (some ⟨O,0,none⟩) V.nc V.nc,.slice s.ea s.l.el s.ec]::(pM s++(Y++(Ll w0 l (qo A J HD O V lb sa cap eH fF bU bS) f cR (cf::cs) X M rs bl bo Lf).S)))→PV (cQ w0.heap.size (A::l) []) s (cy s)→(∀j,j<V.nc→gQ (Y++(Ll w0 l (qo A J HD O V lb sa cap eH fF bU bS) f cR (cf::cs) X M rs bl bo Lf).S) (s.oh j) (Lf.ou j).b.ch)→
 qa prog Post (Old w0) (jQ (A::l)) lQ (G (cf.finish (.tuple #[.agg #[.slice (some ⟨O,0,none⟩) V.nc V.nc,.slice s.ea s.l.el s.ec],i6 0,i6 0])) cs) w'):
 qa prog Post (K2 w0 A (CU bU bS f V.nc)) (jQ (A::l)) ng (G (bb.at a1 (pc prog 24 69 [false,false] [])) (cf::cs)) w1:=by
 have F:=OE (Post:=Post) (w0:=w0) (A:=A) (cc:=CU bU bS f V.nc) (l:=A::l) (List.mem_cons_self ..) ng;refine EJ F af 48 39 #[ptr A] (by kernel_rfl) (by kernel_rfl) (by decide) S1 fun cR El=>?_
 refine At.keep (K':=Old w0) (fun d=>hK.1) ?_;have H:=Tx (cR:=cR) (oF:=cf::cs) (rs:=rs) (bl:=bl) (bo:=bo) (Lf:=Lf) (O:=O) hV hl hA hw he aN hI hM PY SK hS jM fK
 have E7:Sat (cQ w0.heap.size (A::l) []) w1 (pM (jx (qo A J HD O V lb sa cap eH fF bU bS) L f V.nc q en eb)++(sO f V.nc++([bR rs [.slice none 0 0,.slice none 0 0]]++(Ll w0 l (qo A J HD O V lb sa cap eH fF bU bS) f cR (cf::cs) X M rs bl bo Lf).S))):=by
  refine(S1.au.HQ (A:=pM (jx (qo A J HD O V lb sa cap eH fF bU bS) L f V.nc q en eb))).perm (List.Perm.append_left _ (List.Perm.append_left _ ?_));have:=List.perm_append_comm_assoc (u6 A bl bo f V.nc++[oR A 3 [.chan (some bU),.chan (some bS)] false,oR bo 0 [.slice (some ⟨O,0,none⟩) V.nc V.nc] false,oR bl 0 [tG V lb 0] false]) [bR rs [.slice none 0 0,.slice none 0 0]] (X++M)
  simpa using this
 generalize hR:Ll w0 l (qo A J HD O V lb sa cap eH fF bU bS) f cR (cf::cs) X M rs bl bo Lf=R at*;have eA:R.k.A=A:=by rw[←hR]
 have eI:R.wI=w0:=by rw[←hR]
 have el:R.l=A::l:=by rw[←hR]
 have eV:R.k.V=V:=by rw[←hR]
 have eT:R.k.T=f.T:=by rw[←hR]
 have etc:R.k.aX=f.aX:=by rw[←hR]
 have ew:R.k.bU=bU:=by rw[←hR]
 have ee:R.k.bS=bS:=by rw[←hR]
 have eL:R.Lf=Lf:=by rw[←hR]
 have XW:cO R (ze R ng)=sO f V.nc++([bR rs [.slice none 0 0,.slice none 0 0]]++R.S):=by rw[←hR];rfl
 have p8:R.n=V.nc:=by rw[←hR]
 have UH:∀{r},Has R.S r→Has (pM (jx (qo A J HD O V lb sa cap eH fF bU bS) L f V.nc q en eb)++(sO f V.nc++([bR rs [.slice none 0 0,.slice none 0 0]]++R.S))) r:=fun h=>((h.app _).app _).app _
 obtain⟨_,VQ,G7⟩:=UH H.ch
 have bN:∀p∈Pr R,∃r∈pM (jx (qo A J HD O V lb sa cap eH fF bU bS) L f V.nc q en eb)++(sO f V.nc++([bR rs [.slice none 0 0,.slice none 0 0]]++R.S)),r.wr=false∧∃j,r.has j∧r.ad j=p.1∧r.get j=p.2:=fun p hp=>by
  rcases List.mem_append.1 hp with hp|hp
  ·simp only[rF,List.mem_cons,List.not_mem_nil,or_false] at hp
   rcases hp with rfl|rfl
   ·exact⟨_,ga G7,rfl,(0,0),⟨Nat.zero_lt_one,(by decide:0<2)⟩,rfl,rfl⟩
   ·exact⟨_,ga G7,rfl,(0,1),⟨Nat.zero_lt_one,(by decide:1<2)⟩,rfl,rfl⟩
  ·obtain⟨j,hj,rfl⟩:=List.mem_map.1 hp
   have bP:=List.mem_range.1 hj;obtain⟨_,i,hi⟩:=UH ((H.jH (Nat.zero_lt_of_lt bP)).qb j bP);exact⟨_,ga hi,rfl,(0,3),⟨Nat.zero_lt_one,(by decide:3<4)⟩,rfl,rfl⟩
 have W3:Flat (sO f V.nc++([bR rs [.slice none 0 0,.slice none 0 0]]++R.S)):=(Cz f V.nc).app ((Flat.nil.cons rfl).app H.fl);have hTb:∀j,j<R.n→R.k.T j<w1.heap.size:=fun j hj=>aq (Has.au E7 (UH ((H.jH (Nat.zero_lt_of_lt hj)).qb j hj)))
 have hTE:∀j,j<R.n→eb.c=1→R.k.T j≠eb.E:=fun j hj hc=>by
  obtain⟨_,i,hi⟩:=UH ((H.jH (Nat.zero_lt_of_lt hj)).qb j hj);refine mS (b:=R.k.T j) E7 hP W3 hi (fun z=>by subst z;have h9:=congrArg (fun o=>o.map ah.wr) hi;cases h9) (fun z=>by subst z;have h9:=congrArg (fun o=>o.map ah.wr) hi;cases h9) (j0:=(0,0)) ⟨Nat.zero_lt_one,(by decide:0<4)⟩ rfl (eR eb) (List.mem_append_left _ (by simp[pM])) eb.E 128 eb.n ?_
  show(match eb.c with|0=>none|_+1=>some (eb.E,128,eb.n))=_
  rw[hc]
 have WT:({L with al:=V.nc}:LS)=L:=by rw[←hL.al]
 have c0:Co R (ze R ng) (jx (qo A J HD O V lb sa cap eH fF bU bS) L f V.nc q en eb) w1.heap.size:=by
  refine X2 H (by rw[←hR]) xZ (by rw[eI];omega) (by rw[eA];omega) hTb (fun i hi=>?_) (fun i hi=>(hQ.lt i hi).1) (fun t ht=>?_) ?_ (by rw[p8];exact hq)
  ·have dJ:i<V.nc:=(hQ.lt i hi).1
   have:=hL.ag i dJ;exact⟨i,by rw[p8];exact dJ,this.2.1,this.2.2.1⟩
  ·rw[p8] at ht
   have:=hL.ag t ht;exact⟨t,hQ.all t ht this.2.2.2,this.2.1⟩
  ·have hs:q.Pairwise (gR L.ag):=hQ.DT
   refine List.Pairwise.imp_of_mem (fun{a b} ha hb h=>?_) hs;have h1:=(hL.ag a (hQ.lt a ha).1).2.1;have h2:=(hL.ag b (hQ.lt b hb).1).2.1
   show(L.ag a).t≠(L.ag b).t
   rw[h1,h2];intro e;have:a=b:=by omega
   subst this;exact oG h h
 have hKD:KD R.wI R.k.A R.cc (Pr R) w1:=by
  refine⟨by rw[eI];exact hK.1,⟨fun p hp=>?_,?_⟩,⟨_,by rw[eA];exact hK.2.2.1.1⟩,by rw[eA];exact hK.2.2.1.2,⟨_,by rw[eA];exact hK.2.2.2.1⟩⟩
  ·obtain⟨r,h1,_,j,h3,h4,h5⟩:=bN p hp
   rw[←h4,←h5];exact(E7.mem h1).val j h3
  ·have:R.cc=CU bU bS f V.nc:=by rw[←hR]
   rw[this];exact hK.2.1.2
 have hSg:Sat (ku R (ze R ng)) w1 (pM (jx (qo A J HD O V lb sa cap eH fF bU bS) L f V.nc q en eb)++cO R (ze R ng)):=by
  rw[XW]
  show Sat (cQ R.wI.heap.size R.l (Pr R)) _ _
  rw[eI,el];exact E7.zW fun p hp=>by obtain⟨r,h1,h2,j,h3,h4,_⟩:=bN p hp;exact⟨r,h1,h2,j,h3,h4⟩
 have hPg:PV (ku R (ze R ng)) (jx (qo A J HD O V lb sa cap eH fF bU bS) L f V.nc q en eb) (cy (jx (qo A J HD O V lb sa cap eH fF bU bS) L f V.nc q en eb)):=by
  show PV (cQ R.wI.heap.size R.l (Pr R)) _ _
  rw[eI,el];refine hP.zW rfl fun hc p hp=>?_
  have Fa:A<eb.E:=(hP.eo hc).1;rcases List.mem_append.1 hp with hp|hp
  ·simp only[rF,List.mem_cons,List.not_mem_nil,or_false] at hp
   rcases hp with rfl|rfl
   ·show R.k.A≠eb.E;rw[eA];omega
   ·show R.k.A≠eb.E;rw[eA];omega
  ·obtain⟨j,hj,rfl⟩:=List.mem_map.1 hp
   exact hTE j (List.mem_range.1 hj) hc
 have XC:K1 R Post:=by
  intro lQ s dn w' WC D;obtain⟨Y,hY⟩:=D.dW;have eW:R.W=[bR rs [.slice none 0 0,.slice none 0 0]]:=by rw[←hR]
  have e1:R.cR=cR:=by rw[←hR]
  have e2:R.oF=cf::cs:=by rw[←hR]
  have SS:=D.au;have hDp:=D.pv;have hDo:=D.old;rw[hY,eW] at SS;rw[eI,el] at SS hDp ⊢;rw[eI] at hDo;rw[e1,e2]
  have XE:Sat (cQ w0.heap.size (A::l) []) w' (bR rs [.slice none 0 0,.slice none 0 0]::(pM s++(Y++R.S))):=SS.perm (by
   have:=(List.perm_append_comm_assoc [bR rs [.slice none 0 0,.slice none 0 0]] (pM s++Y) R.S).symm
   simpa using this)
  have ebo:R.bo=bo:=by rw[←hR]
  have eO:R.k.O=O:=by rw[←hR]
  have eJ:s.k.J=J:=by rw[D.hk,←hR]
  have L6:=H.L6;rw[ebo,eO,eV] at L6;have pY:=XE.get ((L6.app Y).app (pM s)).cons;refine El (fun g w=>qa prog Post (Old w0) (jQ (A::l)) lQ g w) (.tuple #[]) w' fun a2 eG aW=>?_
  have S2:St (cQ w0.heap.size (A::l) []) w'.heap.size 53 _ _ 0 a2 w':=⟨eG,pY,rfl⟩;rw[←eJ] at S2;have Xg:a2.defers=[]:=aW.trans aG;clear aW;have aW:=Xg;have F:=rP (P:=prog) (Post:=Post) (wI:=w0) (l:=A::l) lQ;have hDA:=D.AB;rw[eA] at hDA;have hoz:=hDo.2.2.2.1;generalize Hz:w'.heap.size=B2 at*
  have hB:∀(a:Addr)(wr:Bool),B2≤a.block→cQ w0.heap.size (A::l) [] a wr:=fun a wr hb=>⟨fun⟨A',h1,h2⟩=>by
   have P6:A'<B2:=by
    rcases List.mem_cons.1 h1 with rfl|h1
    ·omega
    ·have:=hl A' h1;omega
   rcases h2 with h2|h2<;>(cases h2;simp only at hb;omega),fun _=>⟨by omega,fun⟨p,hp,_⟩=>by cases hp⟩⟩
  refine aD F hB af aW S2 11 [0,0,0,1,4,0,0,1,1,0,0,2] [] [] [(6,i6 0),(5,i6 0),(4,ptr rs)] (fun M=>gH 1 (0,1) (.slice s.ea s.l.el s.ec) (gH 1 (0,0) (.slice (some ⟨O,0,none⟩) V.nc V.nc) (M))) 0 81 [false,false] [] fun a3 w3 S3 bD eu fS gD=>?_
  refine dA F S3 af aJ bD [1,0,0,2] (.tuple #[.agg #[.slice (some ⟨O,0,none⟩) V.nc V.nc,.slice s.ea s.l.el s.ec],i6 0,i6 0]) ?_;refine At.assume ig fun SN=>K cR lQ s Y w3 WC (by rw[D.hk,←hR]) (by rw[D.l,eL]) SN ?_ hDp (fun j hj=>?_)
  ·rw[hR];exact S3.au.tail
  ·have hc:=D.ch j (by rw[p8];exact hj)
   rw[D.l,eL] at hc;rw[hR];rcases hc with hc|⟨ca,aj,i,h1,h2⟩
   ·exact .inl hc
   ·have hm:iL ca (Lf.ou j).b.ch∈Y++R.S:=by
     have:=ga h2;rw[hY,eW] at this;simp only[List.append_assoc,List.mem_append,List.mem_cons,List.not_mem_nil,or_false] at this;rcases this with z|z|z
     ·exact List.mem_append_left _ z
     ·have h9:=congrArg ah.wr z;cases h9
     ·exact List.mem_append_right _ z
    obtain⟨i',dJ⟩:=kV hm;exact .inr ⟨ca,aj,i',h1,dJ⟩
 have:=Ih (m:=m) H XC hKD (by rw[eA];exact hK.2.2.2) (by rw[eA];exact hK.2.2.1) c0 hSg hPg hQ (by rw[eV,eL];show Fin V Lf m none ({L with al:=V.nc}:LS);rw[WT];exact hf);rw[eI,el,eA] at this;have e1:R.cR=cR:=by rw[←hR]
 have e2:R.oF=cf::cs:=by rw[←hR]
 rw[e1,e2] at this;exact this
end
end
section
open Go.Conc Go.RowKit Tryz
theorem ni{C:List ah}{r:ah}:Has C r↔r.wr=false∧r∈C:=⟨fun⟨h1,i,h2⟩=>⟨h1,ga h2⟩,fun⟨h1,h2⟩=>⟨h1,kV h2⟩⟩
section
variable{Post:Value→World→Prop}{w0:World}{l:List Nat}{ng:Nat}
theorem QE{V:Ev0}{L Lf:LS}{m:Nat}(hV:vU V)(hL:Bs V L)(hf:Fin V Lf m none L)(xZ:0<ng)(hl:∀x∈l,x<w0.heap.size){cg cap:Nat}{sL sa:Option Addr}{eH:Nat→Option Addr}{fF:Nat→Nat}{M:List ah}{cf:Frame}{cs:List Frame}(hM:T2 V sa eH fF M)(P2:0<V.nl→∃la,sL=some la∧Has M (fR la 6 (fun i=>wL (V.ly i)) V.nl false))(hS:Sat (cQ w0.heap.size l []) w0 M)(vD:∀w',Fr (Wr M) w0 w'→cj prog true (DX (cQ w0.heap.size l [])) 16 #[.slice sL V.nl cg,.slice sa V.nc cap] w' fun v w2=>v=.tuple #[i6 0,i6 0]∧Kp [] w' w2)(K:∀(lQ A:Nat)(s:PS)(C:List ah)(w':World),0<lQ→w0.heap.size≤A→A<w'.heap.size→s.l=Lf→s.k.V=V→Old w0 w'→Sat (cQ w0.heap.size (A::l) []) w' (pM s++C)→PV (cQ w0.heap.size (A::l) []) s (cy s)→(∀r,Has M r→Has C r)→(∀j,j<V.nc→gQ C (s.oh j) (Lf.ou j).b.ch)→
 qa prog Post (Old w0) (jQ (A::l)) lQ (G (cf.finish (.tuple #[.agg #[.slice (some ⟨s.k.O,0,none⟩) V.nc V.nc,.slice s.ea s.l.el s.ec],i6 0,i6 0])) cs) w'):
 qa prog Post (Old w0) (jQ l) ng (G (Frame.enter prog 24 #[.slice sL V.nl cg,.slice sa V.nc cap] .normal) (cf::cs)) w0:=by
 have F:=rP (P:=prog) (Post:=Post) (wI:=w0) (l:=l) ng
 have hB:∀(a:Addr)(wr:Bool),w0.heap.size≤a.block→cQ w0.heap.size l [] a wr:=fun a wr hb=>⟨fun⟨A',h1,h2⟩=>by
  have:=hl A' h1;rcases h2 with h2|h2<;>(cases h2;simp only at hb;omega),fun _=>⟨hb,fun⟨p,hp,_⟩=>by cases hp⟩⟩
 refine QK F hB hV P2 hS (Nat.le_refl _) vD fun bb a7 w7 B7 lb HD J O bl bo rs X af aJ lN ur Ea PY hI jM fK S7=>?_
 have Kk:∀{r},Has X r→Has (X.filter fun r=>!r.wr) r:=fun h=>by
  obtain⟨h1,h2⟩:=ni.1 h;exact ni.2 ⟨h1,List.mem_filter.2 ⟨h2,by simp[h1]⟩⟩
 have PZ:∀{r},Has (X++M) r→Has ((X.filter fun r=>!r.wr)++M) r:=fun h=>by
  obtain⟨h1,h2⟩:=ni.1 h;rcases List.mem_append.1 h2 with z|z
  ·exact(Kk (ni.2 ⟨h1,z⟩)).pre _
  ·exact(ni.2 ⟨h1,z⟩:Has M _).app _
 have SK:∀r∈X.filter fun r=>!r.wr,r.wr=false:=fun r hr=>by simpa using(List.mem_filter.1 hr).2
 have SL:Flat (X.filter fun r=>!r.wr):=by
  rw[cN] at PY ⊢;exact fun r hr=>PY r (List.mem_filter.1 hr).1
 have jU:Bp V lb J 0 ((X.filter fun r=>!r.wr)++M):=⟨fun i h1 h2=>PZ (hI.lay i h1 h2),fun i h1 h2 h3=>PZ (hI.Ip i h1 h2 h3)⟩
 have Vd:St (cQ w0.heap.size l []) B7 53 _ (bR bo [.slice (some ⟨O,0,none⟩) V.nc V.nc]::fR ⟨O,0,none⟩ 4 (fun _=>[i6 0,i6 0,i6 0,.slice none 0 0]) V.nc true::bR bl [tG V lb 0]::fR ⟨HD,0,none⟩ 1 (fun _=>[i6 0]) V.nc true::bR J [.slice none 0 0]::bR rs [.slice none 0 0,.slice none 0 0]::((X.filter fun r=>!r.wr)++M)) 0 a7 w7:=
  ⟨S7.env,S7.au.sub (by
   repeat apply List.Sublist.cons_cons
   exact List.Sublist.append_right List.filter_sublist _),S7.sz⟩
 refine QJ hV hL hl af aJ lN ur Ea (SL.app hM.fl) hM.Qb Vd fun bU bS f q en eb a1 w1 B1 h1 h2 h3 h4 h5 h6 h7 h8 h9 xu yg S1=>?_
 refine QH hV hL hf xZ hl af aJ (by omega) (by omega) h1 h2 h3 h4 h6 h7 hM SL SK jU (Kk jM) (Kk fK) h8 h9 xu yg S1 fun cR lQ s Y w' g1 g2 g3 g4 g5 g6 g7=>?_
 have eO:s.k.O=O:=by rw[g2]
 have nR:=aq (g5.tail.val 0 _ rfl (0,0) ⟨Nat.zero_lt_one,(by decide:0<2)⟩);have hAA:s.k.A=B7+2:=by rw[g2]
 have:=K lQ (B7+2) s _ w' g1 (by omega) (by rw[←hAA];exact nR) g3 (by rw[g2]) g4 g5.tail g6 (fun r hr=>((((hr.app _).cons.cons.cons).app _).app Y)) g7;rw[eO] at this;exact this
end
end
section
open Go.Conc Go.RowKit Tryz
section
variable{B:Nat}{Ok:Addr→Bool→Prop}{Ψ:Goroutine→World→Prop}{w:World}{M:List ah}
theorem QG(F:aC prog true (DX Ok) Ψ)(hB:HB B Ok){cf:Frame}{cs:List Frame}{nl nc cg cap:Nat}{sL sa:Option Addr}{c i:Int}(hc:c≠0)(hS:Sat Ok w M)(ey:B≤w.heap.size)(vD:∀w',Fr (Wr M) w w'→cj prog true (DX Ok) 16 #[.slice sL nl cg,.slice sa nc cap] w' fun v w2=>v=.tuple #[i6 c,i6 i]∧Kp [] w' w2)(K:∀w',Sat Ok w' M→w.heap.size≤w'.heap.size→Ψ (G (cf.finish (.tuple #[.agg #[.slice none 0 0,.slice none 0 0],i6 c,i6 i])) cs) w'):
 Ψ (G (Frame.enter prog 24 #[.slice sL nl cg,.slice sa nc cap] .normal) (cf::cs)) w:=by
 refine iT f24 func24 _ rfl 53 (by kernel_rfl) hS fun bb a0 B1 hn af aJ aP S0 dH=>?_
 refine aD F hB af aP S0 11 [] [] [] [(17,.slice sa nc cap),(16,.slice sL nl cg),(4,ptr B1),(0,.slice sL nl cg),(1,.slice sa nc cap)] (fun M=>bR (B1) [.slice none 0 0,.slice none 0 0]::(M)) 1 11 [] [] fun a1 w1 S1 aG ck cV cW=>?_
 refine fT F af aG S1 18 16 #[.slice sL nl cg,.slice sa nc cap] fun kP bK=>?_
 refine vD w1 cW _ F _ _ (fun v w2 hp=>?_);obtain⟨rfl,k2⟩:=hp;have Py:=k2.size;refine bK _ _ _ (S1.au.JR k2) fun a2 B2 S2 aW dV=>?_
 refine cJ F hB af aW S2 21 [0,0,0,2] [2] [] [(6,i6 i),(5,i6 c),(4,ptr B1)] (fun M=>M) 0 33 [true] [] [(c !=0,true)] [] [] fun a3 w3 S3 bD eu fS gD=>?_
 refine dA F S3 af aJ bD [0,0,0,2] (.tuple #[.agg #[.slice none 0 0,.slice none 0 0],i6 c,i6 i]) ?_;exact K w3 S3.au.tail (by omega)
end
end
section
open Go.Conc Go.RowKit
def qF(n:Nat)(L:Nat→Nat→Int)(m:Nat)(g:Nat→Cl):Ev0:=⟨n,fun i=>⟨L i 0,L i 1,L i 2,L i 3,L i 4,L i 5⟩,m,fun i=>(g i).st,fun i=>(g i).nt,fun i j=>⟨(g i).T j 0,(g i).T j 1,(g i).T j 2⟩⟩
theorem CW(L:Nat→Nat→Int):∀(m k:Nat)(r:Int),bO L m k r=k+m→∀j,k≤j→j<k+m→bu (L j 0) (L j 1) (L j 2) (L j 3) (L j 4) (L j 5)=true
 |0,k,r,_,j,h1,h2=>by omega
 |m+1,k,r,h,j,h1,h2=>by
  unfold bO at h
  by_cases hn:2<(if L k 0=1 then r+1 else r)∨bu (L k 0) (L k 1) (L k 2) (L k 3) (L k 4) (L k 5)=false
  ·rw[if_pos hn] at h;omega
  ·rw[if_neg hn] at h
   by_cases e:j=k
   ·subst e
    cases hg:bu (L j 0) (L j 1) (L j 2) (L j 3) (L j 4) (L j 5) with
    |true=>rfl
    |false=>exact absurd (.inr hg) hn
   ·exact CW L m (k+1) (if L k 0=1 then r+1 else r) (by rw[h];omega) j (by omega) (by omega)
theorem vS(g:Nat→Cl):∀(m k:Nat),gL g m k=k+m→∀j,k≤j→j<k+m→(g j).tU=true
 |0,k,_,j,h1,h2=>by omega
 |m+1,k,h,j,h1,h2=>by
  unfold gL at h
  split at h
  ·omega
  ·rename_i hn
   by_cases e:j=k
   ·subst e;simpa using hn
   ·exact vS g m (k+1) (by omega) j (by omega) (by omega)
theorem vF(T:Nat→Nat→Int):∀(m k:Nat),fA T m k=true→∀j,k≤j→j<k+m→(1≤T j 0∧T j 0≤4)∧(0≤T j 2∧T j 2≤1000)
 |0,k,_,j,h1,h2=>by omega
 |m+1,k,h,j,h1,h2=>by
  unfold fA at h;simp only[Bool.and_eq_true,gF,decide_eq_true_eq] at h
  by_cases e:j=k
  ·subst e;exact⟨by simpa using h.1.1,by simpa using h.1.2⟩
  ·exact vF T m (k+1) h.2 j (by omega) (by omega)
theorem zU{n m:Nat}{L:Nat→Nat→Int}{g:Nat→Cl}(h:iK n L m g=(0,0))(h2:∀i,i<n→L i 0≤2):vU (qF n L m g):=by
 unfold iK at h
 split at h
 ·cases h
 ·rename_i n6
  split at h
  ·cases h
  ·rename_i hb
   split at h
   ·cases h
   ·rename_i m9
    split at h
    ·cases h
    ·rename_i hc
     have e1:bO L n 0 0=0+n:=by have:=uh L n 0 0;omega
     have e2:gL g m 0=0+m:=by have:=xJ g m 0;omega
     have g1:=CW L n 0 0 e1;have g2:=vS g m 0 e2;refine⟨by show n≤6;omega,by show m≤9;omega,fun k hk=>?_,fun k hk kE=>?_,fun c hc=>?_,fun c hc=>?_,fun c hc j hj=>?_⟩
     ·have gB:k<n:=hk
      have q1:=g1 k (by omega) (by omega);have q2:=h2 k gB
      show L k 0=1∨L k 0=2
      unfold bu at q1
      split at q1
      ·exact .inl (by assumption)
      ·split at q1
       ·exact .inr (by assumption)
       ·split at q1
        ·omega
        ·split at q1
         ·omega
         ·split at q1
          ·omega
          ·split at q1
           ·omega
           ·cases q1
     ·have gB:k<n:=hk
      have q1:=g1 k (by omega) (by omega);have AP:L k 0=1:=kE;unfold bu at q1;rw[if_pos AP] at q1;simp only[Bool.and_eq_true,gF,decide_eq_true_eq] at q1
      show(1≤L k 1∧L k 1≤9)∧(0≤L k 2∧L k 2≤1000)∧(1≤L k 3∧L k 3≤9)∧(0≤L k 4∧L k 4≤10000)
      omega
     ·have eP:c<m:=hc
      have q1:=g2 c (by omega) (by omega);simp only[Cl.tU,gN,Bool.and_eq_true,gF,decide_eq_true_eq,Bool.not_eq_true',decide_eq_false_iff_not] at q1
      show 0≤(g c).st∧(g c).st≤1000
      omega
     ·have eP:c<m:=hc
      have q1:=g2 c (by omega) (by omega);simp only[Cl.tU,gN,Bool.and_eq_true,gF,decide_eq_true_eq,Bool.not_eq_true',decide_eq_false_iff_not] at q1
      show(g c).nt≤12
      omega
     ·have eP:c<m:=hc
      have bP:j<(g c).nt:=hj;have q1:=g2 c (by omega) (by omega);simp only[Cl.tU,gN,Bool.and_eq_true] at q1;exact vF (g c).T (g c).nt 0 q1.2 j (by omega) (by omega)
end
end Go.Proofs.YtobagnjnbmgidaaGreatDoor
