import Derived.Test.YtobagnjnbmgidaaGreatDoorB2
set_option linter.all false
set_option maxHeartbeats 8000000
set_option maxRecDepth 100000
namespace Go.Proofs.YtobagnjnbmgidaaGreatDoor
section
open Go.Conc Go.RowKit Tryz
def K2(w0:World)(A:Nat)(cc:List Nat)(w:World):Prop:=Old w0 w∧KL [] cc w∧(w.cell? ⟨A,5,none⟩=some (.int .u64 0)∧w.frozen? ⟨A,5,none⟩=false)∧QD A w
section
variable{Post:Value→World→Prop}{w0 w w':World}{A:Nat}{cc l:List Nat}{es:Array Event}
theorem GL:∀w d,K2 w0 A cc w→K2 w0 A cc (w.at d):=fun _ _ h=>h
theorem Re(hA:A∈l):∀w w' es,DX (cQ w0.heap.size l []) w w' es→K2 w0 A cc w→K2 w0 A cc w':=fun w w' es D h=>by
 have n5:¬cQ w0.heap.size l [] ⟨A,5,none⟩ true:=fun o=>o.1 ⟨A,hA,.inl rfl⟩
 obtain⟨y1,y2⟩:=D.cell _ n5 (aq h.2.2.1.1);exact⟨Am (fun a o=>(o.2 rfl).1) _ _ _ D h.1,LC (fun p hp=>by cases hp) _ _ _ D h.2.1,⟨y1.trans h.2.2.1.1,y2.trans h.2.2.1.2⟩,Lq hA D h.2.2.2⟩
theorem OE(hA:A∈l)(n:Nat):aC prog true (DX (cQ w0.heap.size l [])) (qa prog Post (K2 w0 A cc) (jQ l) n):=
 Ie (h:=0) GL (HP (fun ad z=>z.elim) (fun ad wr z o=>o.1 z) (Re hA)) DX.idle xE rfl
end
section
variable{main:Bool}{B:Nat}{Ok:Addr→Bool→Prop}{Ψ:Goroutine→World→Prop}{w:World}{M:List ah}
theorem QY(F:aC prog main (DX Ok) Ψ)(hB:∀(a:Addr)(wr:Bool),B≤a.block→(a.off=5∨a.off=6)∨Ok a wr){cf:Frame}{cs:List Frame}(hS:Sat Ok w M)(ey:B≤w.heap.size)(K:∀wc ec w',Sat Ok w' (bR (w.heap.size+2) [i6 0,.slice none 0 0]::oR (w.heap.size+2) 2 [i6 0] true::oR (w.heap.size+2) 3 [.chan (some wc),.chan (some ec)] false::M)→cr w' wc→cr w' ec→w.heap.size≤wc→w.heap.size≤ec→wc≠ec→w'.heap.size=w.heap.size+3→Kp [] w w'→Da w' (w.heap.size+2) wc ec→Ψ (G (cf.finish (ptr (w.heap.size+2))) cs) w'):
 Ψ (G (Frame.enter prog 35 #[] .normal) (cf::cs)) w:=by
 refine wG w _ F _ _ (fun v w1 hp=>?_);obtain⟨wc,ec,rfl,k1,hz,a1,a2,a3,a4,a5,o1,o2,ag⟩:=hp
 have An:∀(o:Nat)(wr:Bool),o≠5→o≠6→Ok ⟨w.heap.size+2,o,none⟩ wr:=fun o wr h5 h6=>by
  rcases hB ⟨w.heap.size+2,o,none⟩ wr (by show B≤w.heap.size+2;omega) with (z|z)|z
  ·exact absurd z h5
  ·exact absurd z h6
  ·exact z
 refine K wc ec w1 (hS.xA k1 (N:=[_,_,_]) (fun r hr=>?_) ?_ (fun r hr j hj=>?_)) o1 o2 a1 a3 a5 hz k1 ag
 ·simp only[List.mem_cons,List.not_mem_nil,or_false] at hr
  rcases hr with rfl|rfl|rfl
  ·have:=rV (Ok:=Ok) (w:=w1) (b:=w.heap.size+2) (o:=0) (vs:=[i6 0,.slice none 0 0]) (fun j hj=>?_) (fun j hj=>?_)
   ·refine⟨fun j hj=>?_,fun j hj=>?_,fun _ j j' hj bP e=>?_,fun g e n z=>(by cases z)⟩
    ·have h:=this.val j hj;rw[show(oR (w.heap.size+2) 0 [i6 0,.slice none 0 0] true).ad j=⟨w.heap.size+2,j.2,none⟩ by show(⟨_,0+j.2,none⟩:Addr)=_;rw[Nat.zero_add]] at h;exact h
    ·have h:=this.ok j hj;rw[show(oR (w.heap.size+2) 0 [i6 0,.slice none 0 0] true).ad j=⟨w.heap.size+2,j.2,none⟩ by show(⟨_,0+j.2,none⟩:Addr)=_;rw[Nat.zero_add]] at h;exact h
    ·have e2:j.2=j'.2:=congrArg Addr.off e
     have q1:j.1<1:=hj.1;have q2:j'.1<1:=bP.1;exact Prod.ext (by omega) e2
   ·match j,hj with
    |0,_=>exact⟨ag.a0,ag.z _⟩
    |1,_=>exact⟨ag.a1,ag.z _⟩
   ·match j,hj with
    |0,_=>exact⟨An _ _ (by decide) (by decide),An _ _ (by decide) (by decide)⟩
    |1,_=>exact⟨An _ _ (by decide) (by decide),An _ _ (by decide) (by decide)⟩
  ·refine rV (fun j hj=>?_) (fun j hj=>?_)
   ·match j,hj with
    |0,_=>exact⟨ag.a2,ag.z _⟩
   ·match j,hj with
    |0,_=>exact⟨An _ _ (by decide) (by decide),An _ _ (by decide) (by decide)⟩
  ·refine nZ (fun j hj=>?_) (fun j hj=>?_)
   ·match j,hj with
    |0,_=>exact ag.a3
    |1,_=>exact ag.a4
   ·match j,hj with
    |0,_=>exact An _ _ (by decide) (by decide)
    |1,_=>exact An _ _ (by decide) (by decide)
 ·simp only[List.pairwise_cons,List.mem_cons,List.not_mem_nil,or_false,forall_eq_or_imp,forall_eq,false_implies,implies_true,and_true,List.Pairwise.nil]
  refine⟨⟨fun _ j j' hj bP e=>?_,fun _ j j' hj bP e=>?_⟩,fun _ j j' hj bP e=>?_⟩
  ·have e1:j.2=2+j'.2:=congrArg Addr.off e
   have:j.2<2:=hj.2;omega
  ·have e1:j.2=3+j'.2:=congrArg Addr.off e
   have:j.2<2:=hj.2;omega
  ·have e1:2+j.2=3+j'.2:=congrArg Addr.off e
   have:j.2<1:=hj.2;omega
 ·simp only[List.mem_cons,List.not_mem_nil,or_false] at hr
  rcases hr with rfl|rfl|rfl
  ·show w.heap.size≤w.heap.size+2;omega
  ·show w.heap.size≤w.heap.size+2;omega
  ·show w.heap.size≤w.heap.size+2;omega
end
end
section
open Go.Conc Go.RowKit Tryz
section
variable{B:Nat}{Ok:Addr→Bool→Prop}{Ψ:Goroutine→World→Prop}{w:World}{M:List ah}
theorem QK(F:aC prog true (DX Ok) Ψ)(hB:HB B Ok){cf:Frame}{cs:List Frame}{V:Ev0}{cg cap:Nat}{sL sa:Option Addr}(hV:vU V)(hL:0<V.nl→∃la,sL=some la∧Has M (fR la 6 (fun i=>wL (V.ly i)) V.nl false))(hS:Sat Ok w M)(ey:B≤w.heap.size)(vD:∀w',Fr (Wr M) w w'→cj prog true (DX Ok) 16 #[.slice sL V.nl cg,.slice sa V.nc cap] w' fun v w2=>v=.tuple #[i6 0,i6 0]∧Kp [] w' w2)(K:∀(bb:Frame)(a7:Act)(w7:World)(B7:Nat)(lb:Nat→Nat)(HD J O bl bo rs:Nat)(X:List ah),bb.kind=.normal→bb.fn=24→a7.defers=[]→w7.heap.size=B7→w.heap.size≤B7→Flat X→Bp V lb J 0 (X++M)→Has X (Fb (lb V.nl) .nilIface (-1) J)→Has X (oR (lb V.nl) 3 [.slice sa V.nc cap,.slice (some ⟨HD,0,none⟩) V.nc V.nc] false)→
 St Ok B7 53 [(11,ptr bo),(10,ptr bl),(9,ptr J),(4,ptr rs),(1,.slice sa V.nc cap)] (bR bo [.slice (some ⟨O,0,none⟩) V.nc V.nc]::fR ⟨O,0,none⟩ 4 (fun _=>[i6 0,i6 0,i6 0,.slice none 0 0]) V.nc true::bR bl [tG V lb 0]::fR ⟨HD,0,none⟩ 1 (fun _=>[i6 0]) V.nc true::bR J [.slice none 0 0]::bR rs [.slice none 0 0,.slice none 0 0]::(X++M)) 0 a7 w7→
 Ψ (G (bb.at a7 (pc prog 24 47 [false] [])) (cf::cs)) w7):
 Ψ (G (Frame.enter prog 24 #[.slice sL V.nl cg,.slice sa V.nc cap] .normal) (cf::cs)) w:=by
 have h9:=hV.nc;have h6:=hV.nl;refine iT f24 func24 _ rfl 53 (by kernel_rfl) hS fun bb a0 B1 hn af aJ aP S0 dH=>?_
 refine aD F hB af aP S0 11 [] [] [] [(17,.slice sa V.nc cap),(16,.slice sL V.nl cg),(4,ptr B1),(0,.slice sL V.nl cg),(1,.slice sa V.nc cap)] (fun M=>bR (B1) [.slice none 0 0,.slice none 0 0]::(M)) 1 11 [] [] fun a1 w1 S1 aG ck cV cW=>?_
 refine fT F af aG S1 18 16 #[.slice sL V.nl cg,.slice sa V.nc cap] fun kP bK=>?_
 refine vD w1 cW _ F _ _ (fun v w2 hp=>?_);obtain⟨rfl,k2⟩:=hp;have Py:=k2.size;refine bK _ _ _ (S1.au.JR k2) fun a2 B2 S2 aW dV=>?_
 refine aD F hB af aW S2 21 [] [1] [] [(27,.slice sa V.nc cap),(26,.slice sL V.nl cg),(9,ptr B2),(4,ptr B1),(1,.slice sa V.nc cap)] (fun M=>bR (B2) [.slice none 0 0]::(M)) 1 33 [false] [] fun a3 w3 S3 bD eu fS gD=>?_
 refine fT F af bD S3 28 34 #[.slice sL V.nl cg,.slice sa V.nc cap,ptr B2] fun vO ij=>?_
 refine Ji F hB h6 hV.kd (fun z=>by obtain⟨la,e1,e2⟩:=hL z;exact⟨la,e1,e2.cons.cons⟩) S3.au (by omega) h9 fun lb HD X w4 hfX hI jM fK h4 Ay=>ij _ _ _ h4 fun a4 B4 S4 fC oJ=>?_
 obtain⟨ty,qV⟩:=wK V lb 0;rw[qV] at S4;generalize hX:X++(fR ⟨HD,0,none⟩ 1 (fun _=>[i6 0]) V.nc true::bR B2 [.slice none 0 0]::bR B1 [.slice none 0 0,.slice none 0 0]::M)=M4 at S4;refine aD F hB af fC S4 7 [0,0,0,1] [] [] [(30,i6 V.nc),(10,ptr B4),(9,ptr B2),(4,ptr B1),(1,.slice sa V.nc cap)] (fun M=>bR (B4) [.iface ty (ptr (lb 0))]::(M)) 1 41 [false] [] fun a5 w5 S5 dU jT kC rq=>?_
 refine LA F (fun a wr z=>hB a wr (by omega)) af 30 31 (by kernel_rfl) (by kernel_rfl) (by decide) rfl h9 S5 fun a6 w6 UC P5 kF xX k6=>?_
 rw[show nL (pc prog 24 41 [false] [])=pc prog 24 42 [false] [] by kernel_rfl];have S6:St Ok w6.heap.size 53 _ _ 0 a6 w6:=⟨P5,UC,rfl⟩;have Xf:a6.defers=[]:=kF.trans dU;clear kF;have kF:=Xf;generalize hB6:w6.heap.size=B6 at*;generalize hO:w5.heap.size=O at*;refine aD F hB af kF S6 5 [0,0,0,1] [] [] [(11,ptr B6),(10,ptr B4),(9,ptr B2),(4,ptr B1),(1,.slice sa V.nc cap)] (fun M=>bR (B6) [.slice (some ⟨O,0,none⟩) V.nc V.nc]::(M)) 1 47 [false] [] fun a7 w7 S7 lN ur Ea Kt=>?_
 have sk:∀{r:ah},Has (X++(fR ⟨HD,0,none⟩ 1 (fun _=>[i6 0]) V.nc true::bR B2 [.slice none 0 0]::bR B1 [.slice none 0 0,.slice none 0 0]::M)) r→Has (X++M) r:=fun{r} h=>by
  obtain⟨h1,i,hi⟩:=h
  have hm:r∈X++M:=by
   rcases List.mem_append.1 (ga hi) with z|z
   ·exact List.mem_append_left _ z
   ·rcases List.mem_cons.1 z with rfl|z
    ·cases h1
    ·rcases List.mem_cons.1 z with rfl|z
     ·cases h1
     ·rcases List.mem_cons.1 z with rfl|z
      ·cases h1
      ·exact List.mem_append_right _ z
  obtain⟨i',dJ⟩:=kV hm;exact⟨h1,i',dJ⟩
 subst hX
 have hs7:Sat Ok w7 (bR B6 [.slice (some ⟨O,0,none⟩) V.nc V.nc]::fR ⟨O,0,none⟩ 4 (fun _=>[i6 0,i6 0,i6 0,.slice none 0 0]) V.nc true::bR B4 [tG V lb 0]::fR ⟨HD,0,none⟩ 1 (fun _=>[i6 0]) V.nc true::bR B2 [.slice none 0 0]::bR B1 [.slice none 0 0,.slice none 0 0]::(X++M)):=by
  rw[qV];refine S7.au.perm (List.Perm.cons _ (List.Perm.cons _ (List.Perm.cons _ ?_)));exact List.perm_append_comm_assoc X [fR ⟨HD,0,none⟩ 1 (fun _=>[i6 0]) V.nc true,bR B2 [.slice none 0 0],bR B1 [.slice none 0 0,.slice none 0 0]] M
 exact K bb a7 w7 _ lb HD B2 O B4 B6 B1 X af aJ lN rfl (by omega) hfX ⟨fun i h1 h2=>sk (hI.lay i h1 h2),fun i h1 h2 h3=>sk (hI.Ip i h1 h2 h3)⟩ jM fK ⟨S7.env,hs7,rfl⟩
end
end
section
open Go.Conc Go.RowKit
structure Bg where
 T:Nat→Nat
 aX:Nat→Nat
 ba:Nat→Nat
 bt:Nat→Nat
 bw:Nat→Nat
 bi:Nat→Nat
def Bg.put(f:Bg)(k T aX ba bt bw bi:Nat):Bg:=⟨upd f.T k T,upd f.aX k aX,upd f.ba k ba,upd f.bt k bt,upd f.bw k bw,upd f.bi k bi⟩
def Bn(A bl bo:Nat)(f:Bg)(j:Nat):List ah:=[oR (f.T j) 0 [ptr A,i6 j,i6 j,.chan (some (f.aX j))] false,oR (f.ba j) 0 [ptr A] false,oR (f.bw j) 0 [.func (.func 37) #[] #[ptr bl,ptr bo,ptr (f.bi j)]] false,oR (f.bt j) 0 [ptr (f.T j)] false,oR (f.bi j) 0 [i6 j] false]
def u6(A bl bo:Nat)(f:Bg)(k:Nat):List ah:=(List.range k).flatMap (Bn A bl bo f)
def sO(f:Bg)(k:Nat):List ah:=(List.range k).flatMap fun j=>[jw (f.T j) (.pointer none) false]
def M9(f:Bg)(j:Nat):Value:=.func (.func 50) #[] #[ptr (f.ba j),ptr (f.bt j),ptr (f.bw j)]
theorem kQ(f:Bg){k j:Nat}(h:j<k)(T aX ba bt bw bi:Nat):(f.put k T aX ba bt bw bi).T j=f.T j∧(f.put k T aX ba bt bw bi).aX j=f.aX j∧(f.put k T aX ba bt bw bi).ba j=f.ba j∧(f.put k T aX ba bt bw bi).bt j=f.bt j∧(f.put k T aX ba bt bw bi).bw j=f.bw j∧(f.put k T aX ba bt bw bi).bi j=f.bi j:=by
 simp[Bg.put,upd,Nat.ne_of_lt h]
theorem tj(f:Bg)(k T aX ba bt bw bi:Nat):(f.put k T aX ba bt bw bi).T k=T∧(f.put k T aX ba bt bw bi).aX k=aX∧(f.put k T aX ba bt bw bi).ba k=ba∧(f.put k T aX ba bt bw bi).bt k=bt∧(f.put k T aX ba bt bw bi).bw k=bw∧(f.put k T aX ba bt bw bi).bi k=bi:=by
 simp[Bg.put,upd]
theorem tV(f g:Nat→List ah):∀k,(∀j,j<k→f j=g j)→(List.range k).flatMap f=(List.range k).flatMap g
 |0,_=>rfl
 |k+1,h=>by
  rw[List.range_succ,List.flatMap_append,List.flatMap_append,tV f g k fun j hj=>h j (by omega)];simp[h k (by omega)]
theorem KN(A bl bo:Nat)(f:Bg)(k T aX ba bt bw bi:Nat):u6 A bl bo (f.put k T aX ba bt bw bi) (k+1)=u6 A bl bo f k++[oR T 0 [ptr A,i6 k,i6 k,.chan (some aX)] false,oR ba 0 [ptr A] false,oR bw 0 [.func (.func 37) #[] #[ptr bl,ptr bo,ptr bi]] false,oR bt 0 [ptr T] false,oR bi 0 [i6 k] false]:=by
 unfold u6;rw[List.range_succ,List.flatMap_append,tV (Bn A bl bo (f.put k T aX ba bt bw bi)) (Bn A bl bo f) k fun j hj=>?_]
 ·obtain⟨h1,h2,h3,h4,h5,h6⟩:=tj f k T aX ba bt bw bi
  simp[Bn,h1,h2,h3,h4,h5,h6]
 ·obtain⟨h1,h2,h3,h4,h5,h6⟩:=kQ f hj T aX ba bt bw bi
  simp only[Bn,h1,h2,h3,h4,h5,h6]
theorem Ja(f:Bg)(k T aX ba bt bw bi:Nat):sO (f.put k T aX ba bt bw bi) (k+1)=sO f k++[jw T (.pointer none) false]:=by
 unfold sO;rw[List.range_succ,List.flatMap_append,tV (fun j=>[jw ((f.put k T aX ba bt bw bi).T j) (.pointer none) false]) (fun j=>[jw (f.T j) (.pointer none) false]) k fun j hj=>?_]
 ·obtain⟨h1,_⟩:=tj f k T aX ba bt bw bi
  simp[h1]
 ·obtain⟨h1,_⟩:=kQ f hj T aX ba bt bw bi
  simp only[h1]
structure Bs(V:Ev0)(L:LS):Prop where
 now:L.now=0
 al:L.al=V.nc
 ag:∀i,i<V.nc→(L.ag i).a=V.st i∧(L.ag i).t=(i:Int)∧(L.ag i).c=0∧(L.ag i).o=false
 us:∀i,L.us i=0
 ou:∀i,L.ou i=⟨0,⟨0,0,[]⟩⟩
 el:L.el=0
abbrev jx(kk:PK)(L:LS)(f:Bg)(k:Nat)(q:List Nat)(en:Value)(eb:qP):PS:=
 {k:={kk with T:=f.T,aX:=f.aX,sc:=M9 f},en:=en,eb:=eb,ea:=none,ec:=0,vv:=fun _=>[],oh:=fun _=>.slice none 0 0,q:=q,wb:=fun _=>0,l:={L with al:=k}}
structure Ub(V:Ev0)(bU bS:Nat)(f:Bg)(k:Nat)(w:World):Prop where
 lt:∀j,j<k→f.aX j<w.heap.size∧bU<f.aX j∧bS<f.aX j
 inj:∀i,i<k→∀j,j<k→f.aX i=f.aX j→i=j
 wl:bU<w.heap.size∧bS<w.heap.size
theorem Nh{kk:PK}{V:Ev0}{L:LS}(hL:Bs V L){f:Bg}{k:Nat}{q:List Nat}{en p8:Value}{eb lS:qP}(Q:QI (jx kk L f k q en eb))(hk:k<V.nc){i:Nat}(hi:i≤q.length){T aX ba bt bw bi:Nat}(hp:lz (cy (jx kk L f k q en eb)) (V.st k) i):
 QI (jx kk L (f.put k T aX ba bt bw bi) (k+1) (q.take i++k::q.drop i) p8 lS)∧cy (jx kk L (f.put k T aX ba bt bw bi) (k+1) (q.take i++k::q.drop i) p8 lS)=(cy (jx kk L f k q en eb)).take i++(V.st k,.func (.func 50) #[] #[ptr ba,ptr bt,ptr bw])::(cy (jx kk L f k q en eb)).drop i:=by
 have ql:∀j∈q,j<k:=fun j hj=>(Q.lt j hj).1
 have bY:∀j,j∈q.take i++k::q.drop i↔j=k∨j∈q:=fun j=>by
  conv=>rhs;rhs;rw[←List.take_append_drop i q]
  simp only[List.mem_append,List.mem_cons]
  constructor
  ·rintro (h|h|h)
   ·exact .inr (.inl h)
   ·exact .inl h
   ·exact .inr (.inr h)
  ·rintro (h|h|h)
   ·exact .inr (.inl h)
   ·exact .inl h
   ·exact .inr (.inr h)
 have he:∀j∈q,jz (jx kk L (f.put k T aX ba bt bw bi) (k+1) (q.take i++k::q.drop i) p8 lS) j=jz (jx kk L f k q en eb) j:=fun j hj=>by
  have bP:=ql j hj;obtain⟨a1,a2,a3,a4⟩:=hL.ag j (by omega);unfold jz
  show((L.ag j).a,if(L.ag j).c=0 then M9 (f.put k T aX ba bt bw bi) (L.ag j).t.toNat else _)=((L.ag j).a,if(L.ag j).c=0 then M9 f (L.ag j).t.toNat else _)
  rw[if_pos a3,if_pos a3,a2,Int.toNat_natCast];obtain⟨h1,h2,h3,h4,h5,h6⟩:=kQ f bP T aX ba bt bw bi;simp only[M9,h3,h4,h5]
 have sB:=hL.ag k hk
 have hek:jz (jx kk L (f.put k T aX ba bt bw bi) (k+1) (q.take i++k::q.drop i) p8 lS) k=(V.st k,.func (.func 50) #[] #[ptr ba,ptr bt,ptr bw]):=by
  unfold jz
  show((L.ag k).a,if(L.ag k).c=0 then M9 (f.put k T aX ba bt bw bi) (L.ag k).t.toNat else _)=_
  rw[if_pos sB.2.2.1,sB.2.1,Int.toNat_natCast,sB.1];obtain⟨h1,h2,h3,h4,h5,h6⟩:=tj f k T aX ba bt bw bi;simp only[M9,h3,h4,h5]
 refine⟨⟨fun j hj=>?_,fun j h1 h2=>?_,?_,fun j hj=>?_⟩,?_⟩
 ·rcases(bY j).1 hj with rfl|hj
  ·exact⟨Nat.lt_succ_self _,sB.2.2.2⟩
  ·exact⟨Nat.lt_succ_of_lt (ql j hj),(Q.lt j hj).2⟩
 ·refine(bY j).2 ?_
  have iq:j<k+1:=h1
  by_cases e:j=k
  ·exact .inl e
  ·exact .inr (Q.all j (by show j<k;omega) h2)
 ·show(q.take i++k::q.drop i).Pairwise (gR L.ag)
  have G0:q.Pairwise (gR L.ag):=Q.DT;rw[←List.take_append_drop i q,List.pairwise_append] at G0;obtain⟨p1,p2,p3⟩:=G0
  have gtp:∀j∈q.drop i,V.st k<(L.ag j).a:=fun j hj=>by
   obtain⟨n,hn⟩:=List.getElem?_of_mem hj;rw[List.getElem?_drop] at hn;have:=hp.gt (i+n) (jz (jx kk L f k q en eb) j) (by omega) (by simp[cy,hn]);exact this
  have lep:∀j∈q.take i,(L.ag j).a≤V.st k:=fun j hj=>by
   have yV:0<i:=by
    cases i with
    |zero=>simp at hj
    |succ i=>omega
   have aT:i-1<q.length:=by omega
   have Cr:q[i-1]? =some q[i-1]:=List.getElem?_eq_getElem aT;have h1:=hp.le (jz (jx kk L f k q en eb) q[i-1]) yV (by simp[cy,Cr]);have iq:(L.ag q[i-1]).a≤V.st k:=h1;obtain⟨n,hn,EY⟩:=List.getElem_of_mem hj;rw[List.length_take] at hn;rw[List.getElem_take] at EY
   by_cases e:n=i-1
   ·subst e;rw[←EY];exact iq
   ·have hs:q.Pairwise (gR L.ag):=Q.DT
    have h3:=yI hs (i:=n) (j:=i-1) (by omega) aT;rw[EY] at h3;rcases h3 with z|z
    ·exact Int.le_of_lt (Int.lt_of_lt_of_le z iq)
    ·rw[z.1];exact iq
  rw[List.pairwise_append,List.pairwise_cons];refine⟨p1,⟨fun j hj=>?_,p2⟩,fun j hj b hb=>?_⟩
  ·left;rw[sB.1];exact gtp j hj
  ·rcases List.mem_cons.1 hb with rfl|hb
   ·have h1:=lep j hj
    have h2:=ql j (List.mem_of_mem_take hj);unfold gR;rw[sB.1];rcases Int.lt_or_eq_of_le h1 with z|z
    ·exact .inl z
    ·exact .inr ⟨z,h2⟩
   ·exact p3 j hj b hb
 ·rcases(bY j).1 hj with rfl|hj
  ·exact .inl sB.2.2.1
  ·exact .inl (hL.ag j (by have:=ql j hj;omega)).2.2.1
 ·unfold cy
  show(q.take i++k::q.drop i).map _=_
  rw[List.map_append,List.map_cons,hek,←List.map_take,←List.map_drop]
  congr 1
  ·exact List.map_congr_left fun j hj=>he j (List.mem_of_mem_take hj)
  ·congr 1
   exact List.map_congr_left fun j hj=>he j (List.mem_of_mem_drop hj)
end
end Go.Proofs.YtobagnjnbmgidaaGreatDoor
