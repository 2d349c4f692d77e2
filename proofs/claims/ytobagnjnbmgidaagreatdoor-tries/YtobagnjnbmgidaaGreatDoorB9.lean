import Derived.Test.YtobagnjnbmgidaaGreatDoorB6
set_option linter.all false
set_option maxHeartbeats 8000000
set_option maxRecDepth 100000
namespace Go.Proofs.YtobagnjnbmgidaaGreatDoor
section
open Go.Conc Go.RowKit Tryz
section
variable{Post:Value→World→Prop}{w0:World}{l:List Nat}{ng:Nat}
abbrev CU(bU bS:Nat)(f:Bg)(k:Nat):List Nat:=bU::bS::(List.range k).map f.aX
theorem CA(A bl bo:Nat)(f:Bg)(k:Nat):Flat (u6 A bl bo f k):=by
 rw[cN];intro r hr;obtain⟨j,_,hr⟩:=List.mem_flatMap.1 hr;simp only[Bn,List.mem_cons,List.not_mem_nil,or_false] at hr;rcases hr with rfl|rfl|rfl|rfl|rfl<;>rfl
theorem Cz(f:Bg)(k:Nat):Flat (sO f k):=by
 rw[cN];intro r hr;obtain⟨j,_,hr⟩:=List.mem_flatMap.1 hr;simp only[List.mem_cons,List.not_mem_nil,or_false] at hr;subst hr;rfl
theorem GB{kk:PK}{L:LS}(hV:vU kk.V)(hL:Bs kk.V L)(hA:kk.A∈l){B:Nat}(hB:∀(a:Addr)(wr:Bool),B≤a.block→cQ w0.heap.size l [] a wr){bb:Frame}(af:bb.kind=.normal)(aJ:bb.fn=24){cf:Frame}{cs:List Frame}{cap rs bl bo bU bS:Nat}{sa:Option Addr}{M:List ah}(hM:Flat M){eH:Nat→Option Addr}{fF:Nat→Nat}(hC:0<kk.V.nc→∃ca,sa=some ca∧Has M (fR ca 2 (fun j=>[i6 (kk.V.st j),.slice (eH j) (kk.V.nt j) (fF j)]) kk.V.nc false))(K:∀(f:Bg)(q:List Nat)(en:Value)(eb:qP)(a1:Act)(w1:World)(B1:Nat),a1.defers=[]→B≤B1→w1.heap.size=B1→Ub kk.V bU bS f kk.V.nc w1→K2 w0 kk.A (CU bU bS f kk.V.nc) w1→PV (cQ w0.heap.size l []) (jx kk L f kk.V.nc q en eb) (cy (jx kk L f kk.V.nc q en eb))→QI (jx kk L f kk.V.nc q en eb)→q.length=kk.V.nc→
 St (cQ w0.heap.size l []) B1 53 [(47,ptr kk.A),(11,ptr bo),(9,ptr kk.J),(4,ptr rs)] (pM (jx kk L f kk.V.nc q en eb)++(oR kk.A 2 [i6 kk.V.nc] true::(sO f kk.V.nc++(u6 kk.A bl bo f kk.V.nc++M)))) 0 a1 w1→
 qa prog Post (K2 w0 kk.A (CU bU bS f kk.V.nc)) (jQ l) ng (G (bb.at a1 (pc prog 24 69 [false,false] [])) (cf::cs)) w1):
 ∀(left k:Nat)(f:Bg)(q:List Nat)(en:Value)(eb:qP)(a0:Act)(w:World)(B1:Nat),left+k=kk.V.nc→a0.defers=[]→B≤B1→w.heap.size=B1→Ub kk.V bU bS f k w→PV (cQ w0.heap.size l []) (jx kk L f k q en eb) (cy (jx kk L f k q en eb))→QI (jx kk L f k q en eb)→q.length=k→
   St (cQ w0.heap.size l []) B1 53 [(35,i6 k),(34,i6 kk.V.nc),(33,.slice sa kk.V.nc cap),(12,ptr kk.A),(11,ptr bo),(10,ptr bl),(9,ptr kk.J),(4,ptr rs)] (pM (jx kk L f k q en eb)++(oR kk.A 2 [i6 k] true::(sO f k++(u6 kk.A bl bo f k++M)))) 0 a0 w→
   qa prog Post (K2 w0 kk.A (CU bU bS f k)) (jQ l) ng (G (bb.at a0 (pc prog 24 59 [false] [])) (cf::cs)) w
 |0,k,f,q,en,eb,a0,w,B1,hk,aP,hle,dH,hI,hP,hQ,hq,S0=>by
  have:k=kk.V.nc:=by omega
  subst this;have F:=OE (Post:=Post) (w0:=w0) (A:=kk.A) (cc:=CU bU bS f kk.V.nc) hA ng;generalize SP:pM (jx kk L f kk.V.nc q en eb)++(oR kk.A 2 [i6 kk.V.nc] true::(sO f kk.V.nc++(u6 kk.A bl bo f kk.V.nc++M)))=MM at S0;refine cJ F hB af aP S0 10 [] [0] [] [(47,ptr kk.A),(11,ptr bo),(9,ptr kk.J),(4,ptr rs)] (fun M=>M) 0 69 [false,false] [] [(decide ((↑kk.V.nc:Int)<(↑kk.V.nc:Int)),false)] [] [] fun a1 w1 S1 aG ck cV cW=>?_
  subst SP;exact At.assume GL fun hK=>K f q en eb a1 w1 _ aG (by omega) rfl ⟨fun j hj=>by have:=hI.lt j hj;exact⟨by omega,this.2⟩,hI.inj,by have:=hI.wl;exact⟨by omega,by omega⟩⟩ hK hP hQ hq ⟨S1.env,S1.au,rfl⟩
 |left+1,k,f,q,en,eb,a0,w,B1,hk,aP,hle,dH,hI,hP,hQ,hq,S0=>by
  have F:=OE (Post:=Post) (w0:=w0) (A:=kk.A) (cc:=CU bU bS f k) hA ng;have h9:=hV.nc;have nC:k<kk.V.nc:=by omega
  obtain⟨ca,uW,hHC⟩:=hC (by omega);have Qh:=S0.get (((hHC.app (u6 kk.A bl bo f k)).app (sO f k)).cons.app (pM (jx kk L f k q en eb)));subst uW;generalize SP:pM (jx kk L f k q en eb)++(oR kk.A 2 [i6 k] true::(sO f k++(u6 kk.A bl bo f k++M)))=MM at Qh;clear S0;have S0:=Qh;clear Qh;have LG:IntKind.wrap .i64 ((k:Int)+1)=(k:Int)+1:=bI (by omega) (by omega);refine cJ F hB af aP S0 25 [0,k,0,102,1,0,0,1,0,0,0,2,1,0,0,1,0,0,0,1] [2,2] [] [(44,.func (Fn.func 37) #[] #[ptr bl,ptr bo,ptr B1]),(43,i6 (kk.V.st k)),(41,i6 k),(40,ptr kk.A),(35,i6 k),(34,i6 kk.V.nc),(33,.slice (some ca) kk.V.nc cap),(12,ptr kk.A),(11,ptr bo),(10,ptr bl),(9,ptr kk.J),(4,ptr rs)] (fun M=>bR (B1+1) [i6 (kk.V.st k),.slice (eH k) (kk.V.nt k) (fF k)]::(bR (B1) [i6 k]::(M))) 2 84 [false,true] [] [(decide ((↑k:Int)<(↑kk.V.nc:Int)),true)] [((↑k:Int),kk.V.nc)] [(2,(k,kk.V.nc))] fun a1 w1 S1 aG ck cV cW=>?_
  refine fT F af aG S1 45 36 #[ptr kk.A,i6 k,i6 (kk.V.st k),.func (Fn.func 37) #[] #[ptr bl,ptr bo,ptr B1]] fun kP bK=>?_
  subst SP
  have hSb:Sat (cQ w0.heap.size l []) w1 (pM (jx kk L f k q en eb)++(oR kk.A 2 [i6 k] true::(oR B1 0 [i6 k] false::(sO f k++(u6 kk.A bl bo f k++M))))):=by
   have h1:=(S1.au.tail).fix;have h2:=Sat.HQ (A:=[oR B1 0 [i6 k] false]) h1;refine h2.perm ?_;have:=List.perm_append_comm_assoc [oR B1 0 [i6 (k:Int)] false] (pM (jx kk L f k q en eb)++[oR kk.A 2 [i6 k] true]) (sO f k++(u6 kk.A bl bo f k++M))
   simpa using this
  refine KO (s:=jx kk L f k q en eb) (k:=k) (cl:=k) (bl:=bl) (bo:=bo) (bi:=B1) (at':=kk.V.st k) F hB hSb hP (((Cz f k).app ((CA _ _ _ f k).app hM)).cons rfl) (by omega) (by rw[pO];show q.length<900;omega) (by omega) fun ba bw aX T bt p8 lS i w2 hi nB h2 UT eC Iu kX k2=>?_
  rw[pO] at hi;obtain⟨Xu,Xa⟩:=Nh (p8:=p8) (lS:=lS) (T:=T) (aX:=aX) (ba:=ba) (bt:=bt) (bw:=bw) (bi:=B1) hL hQ nC hi nB;rw[←Xa] at UT
  have h3:Sat (cQ w0.heap.size l []) w2 (pM (jx kk L (f.put k T aX ba bt bw B1) (k+1) (q.take i++k::q.drop i) p8 lS)++(oR kk.A 2 [i6 ((k+1:Nat):Int)] true::(sO (f.put k T aX ba bt bw B1) (k+1)++(u6 kk.A bl bo (f.put k T aX ba bt bw B1) (k+1)++M)))):=by
   rw[Ja,KN];refine h2.perm (List.Perm.append_left (pM (jx kk L f k q p8 lS)) (List.Perm.cons _ ?_));simp only[List.append_assoc,List.cons_append,List.nil_append];refine List.Perm.trans ?_ (List.perm_middle (a:=jw T (.pointer none) false) (l₁:=sO f k)).symm;refine List.Perm.trans (List.Perm.swap _ _ _) (List.Perm.cons _ ?_);have:=List.perm_append_comm_assoc [oR T 0 [ptr kk.A,i6 (k:Int),i6 (k:Int),.chan (some aX)] false,oR ba 0 [ptr kk.A] false,oR bw 0 [.func (.func 37) #[] #[ptr bl,ptr bo,ptr B1]] false,oR bt 0 [ptr T] false,oR B1 0 [i6 (k:Int)] false] (sO f k++u6 kk.A bl bo f k) M
   simpa using this
  refine bK _ _ _ h3 fun a2 B2 S2 aW dV=>?_
  generalize SP:pM (jx kk L (f.put k T aX ba bt bw B1) (k+1) (q.take i++k::q.drop i) p8 lS)++(oR kk.A 2 [i6 ((k+1:Nat):Int)] true::(sO (f.put k T aX ba bt bw B1) (k+1)++(u6 kk.A bl bo (f.put k T aX ba bt bw B1) (k+1)++M)))=MM at S2;refine aD F hB af aW S2 7 [] [] [] [(35,i6 (IntKind.wrap .i64 ((↑k:Int)+1))),(34,i6 kk.V.nc),(33,.slice (some ca) kk.V.nc cap),(12,ptr kk.A),(11,ptr bo),(10,ptr bl),(9,ptr kk.J),(4,ptr rs)] (fun M=>M) 0 92 [false,true] [] fun a3 w3 S3 bD eu fS gD=>?_
  rw[show pc prog 24 92 [false,true] []=pc prog 24 59 [false] [] by kernel_rfl];rw[LG] at S3;have ek:(k:Int)+1=((k+1:Nat):Int):=by simp
  rw[ek] at S3;subst SP;have Sy:cr w3 aX:=gD.obj _ _ eC (fun _ _ _ z=>by cases z);have su:aX<w3.heap.size:=(Array.getElem?_eq_some_iff.1 Sy).1;have aT:∀j,j<k→f.aX j<aX:=fun j hj=>by have:=(hI.lt j hj).1;omega
  have rJ:=hI.wl;refine At.assume GL fun hK=>At.keep (K':=K2 w0 kk.A (CU bU bS (f.put k T aX ba bt bw B1) (k+1))) (fun d=>⟨hK.1,⟨hK.2.1.1,fun c hc=>?_⟩,hK.2.2⟩) (GB hV hL hA hB af aJ hM hC K left (k+1) (f.put k T aX ba bt bw B1) (q.take i++k::q.drop i) p8 lS a3 w3 _ (by omega) bD (by omega) rfl ⟨fun j hj=>?_,fun a ha b hb e=>?_,⟨by omega,by omega⟩⟩ ⟨UT.jr,UT.en,UT.eo⟩ Xu ?_ ⟨S3.env,S3.au,rfl⟩)
  ·show∃k',w3.heap[c]? =_
   rcases List.mem_cons.1 hc with rfl|hc
   ·exact hK.2.1.2 _ (List.mem_cons_self ..)
   ·rcases List.mem_cons.1 hc with rfl|hc
    ·exact hK.2.1.2 _ (List.mem_cons_of_mem _ (List.mem_cons_self ..))
    ·obtain⟨j,hj,rfl⟩:=List.mem_map.1 hc
     have bP:=List.mem_range.1 hj
     by_cases e:j=k
     ·rw[e,(tj f k T aX ba bt bw B1).2.1];exact⟨0,Sy⟩
     ·rw[(kQ f (by omega:j<k) T aX ba bt bw B1).2.1]
      exact hK.2.1.2 _ (List.mem_cons_of_mem _ (List.mem_cons_of_mem _ (List.mem_map.2 ⟨j,List.mem_range.2 (by omega),rfl⟩)))
  ·by_cases e:j=k
   ·rw[e,(tj f k T aX ba bt bw B1).2.1];exact⟨su,by omega,by omega⟩
   ·rw[(kQ f (by omega:j<k) T aX ba bt bw B1).2.1]
    have:=hI.lt j (by omega);exact⟨by omega,this.2⟩
  ·by_cases e1:a=k
   ·by_cases e2:b=k
    ·rw[e1,e2]
    ·rw[e1,(tj f k T aX ba bt bw B1).2.1,(kQ f (by omega:b<k) T aX ba bt bw B1).2.1] at e
     have:=aT b (by omega);omega
   ·by_cases e2:b=k
    ·rw[e2,(tj f k T aX ba bt bw B1).2.1,(kQ f (by omega:a<k) T aX ba bt bw B1).2.1] at e
     have:=aT a (by omega);omega
    ·rw[(kQ f (by omega:a<k) T aX ba bt bw B1).2.1,(kQ f (by omega:b<k) T aX ba bt bw B1).2.1] at e
     exact hI.inj a (by omega) b (by omega) e
  ·simp only[List.length_append,List.length_cons,List.length_take,List.length_drop];omega
end
end
section
open Go.Conc Go.RowKit Tryz
theorem At.Vv{P:Program}{Post:Value→World→Prop}{K:World→Prop}{Shun rz Still:Loc→Prop}{Mem:Nat→Prop}{Inb:Nat→Option Seat}{h n:Nat}{g:Goroutine}{w:World}(h3:∀x,Shun x→rz x)(h4:∀x,rz x→Shun x∨T0 w.heap.size x)(H:At P Post K rz Still Mem Inb h n g w):At P Post K Shun Still Mem Inb h n g w:=
 fun d gs T q sl hn hg C=>H d gs T q sl hn hg (R2.grow C (fun _ x=>x) (fun _ x=>.inl x) h3 h4)
theorem Np{α:Type}(sR vR eR A A2 A3 bo fO bl XR J rs:α)(T:List α):(sR::vR::eR::A::A2::A3::bo::fO::bl::XR::J::rs::T).Perm (A::eR::J::vR::sR::XR::fO::A2::A3::bo::bl::rs::T):=
 (List.perm_middle (l₁:=[sR,vR,eR])).trans (.cons _ ((List.perm_middle (l₁:=[sR,vR])).trans (.cons _ ((List.perm_middle (l₁:=[sR,vR,A2,A3,bo,fO,bl,XR])).trans (.cons _ ((List.perm_middle (l₁:=[sR])).trans (.cons _ (.cons _ ((List.perm_middle (l₁:=[A2,A3,bo,fO,bl])).trans (.cons _ ((List.perm_middle (l₁:=[A2,A3,bo])).trans (.cons _ (.refl _)))))))))))))
section
variable{Post:Value→World→Prop}{w0:World}{l:List Nat}{ng:Nat}
abbrev qo(A J HD O:Nat)(V:Ev0)(lb:Nat→Nat)(sa:Option Addr)(cap:Nat)(eH:Nat→Option Addr)(fF:Nat→Nat)(bU bS:Nat):PK:={A:=A,J:=J,HD:=HD,O:=O,sc:=fun _=>.nilIface,V:=V,lb:=lb,T:=fun _=>0,aX:=fun _=>0,ca:=sa.getD ⟨0,0,none⟩,cc:=cap,eH:=eH,fF:=fF,bU:=bU,bS:=bS}
def Qc:Bg:=⟨fun _=>0,fun _=>0,fun _=>0,fun _=>0,fun _=>0,fun _=>0⟩
def To:qP:=⟨0,0,0,fun _=>undef⟩
theorem QJ{V:Ev0}{L:LS}(hV:vU V)(hL:Bs V L)(hl:∀x∈l,x<w0.heap.size){bb:Frame}{a7:Act}{w7:World}{B7:Nat}{lb:Nat→Nat}{HD J O bl bo rs cap:Nat}{sa:Option Addr}{X M:List ah}{cf:Frame}{cs:List Frame}(af:bb.kind=.normal)(aJ:bb.fn=24)(lN:a7.defers=[])(ur:w7.heap.size=B7)(Ea:w0.heap.size≤B7)(hX:Flat (X++M)){eH:Nat→Option Addr}{fF:Nat→Nat}(hC:0<V.nc→∃ca,sa=some ca∧Has M (fR ca 2 (fun j=>[i6 (V.st j),.slice (eH j) (V.nt j) (fF j)]) V.nc false))(S7:St (cQ w0.heap.size l []) B7 53 [(11,ptr bo),(10,ptr bl),(9,ptr J),(4,ptr rs),(1,.slice sa V.nc cap)] (bR bo [.slice (some ⟨O,0,none⟩) V.nc V.nc]::fR ⟨O,0,none⟩ 4 (fun _=>[i6 0,i6 0,i6 0,.slice none 0 0]) V.nc true::bR bl [tG V lb 0]::fR ⟨HD,0,none⟩ 1 (fun _=>[i6 0]) V.nc true::bR J [.slice none 0 0]::bR rs [.slice none 0 0,.slice none 0 0]::(X++M)) 0 a7 w7)(K:∀(bU bS:Nat)(f:Bg)(q:List Nat)(en:Value)(eb:qP)(a1:Act)(w1:World)(B1:Nat),w0.heap.size≤bU→w0.heap.size≤bS→bU≠bS→a1.defers=[]→B7+3≤B1→w1.heap.size=B1→Ub V bU bS f V.nc w1→K2 w0 (B7+2) (CU bU bS f V.nc) w1→PV (cQ w0.heap.size ((B7+2)::l) []) (jx (qo (B7+2) J HD O V lb sa cap eH fF bU bS) L f V.nc q en eb) (cy (jx (qo (B7+2) J HD O V lb sa cap eH fF bU bS) L f V.nc q en eb))→QI (jx (qo (B7+2) J HD O V lb sa cap eH fF bU bS) L f V.nc q en eb)→q.length=V.nc→
 St (cQ w0.heap.size ((B7+2)::l) []) B1 53 [(47,ptr (B7+2)),(11,ptr bo),(9,ptr J),(4,ptr rs)] (pM (jx (qo (B7+2) J HD O V lb sa cap eH fF bU bS) L f V.nc q en eb)++(oR (B7+2) 2 [i6 V.nc] true::(sO f V.nc++(u6 (B7+2) bl bo f V.nc++(oR (B7+2) 3 [.chan (some bU),.chan (some bS)] false::oR bo 0 [.slice (some ⟨O,0,none⟩) V.nc V.nc] false::oR bl 0 [tG V lb 0] false::bR rs [.slice none 0 0,.slice none 0 0]::(X++M)))))) 0 a1 w1→
 qa prog Post (K2 w0 (B7+2) (CU bU bS f V.nc)) (jQ ((B7+2)::l)) ng (G (bb.at a1 (pc prog 24 69 [false,false] [])) (cf::cs)) w1):
 qa prog Post (Old w0) (jQ l) ng (G (bb.at a7 (pc prog 24 47 [false] [])) (cf::cs)) w7:=by
 refine At.Vv (rz:=jQ ((B7+2)::l)) (fun x h=>FP h) (fun x h=>(Jm h).imp id fun⟨a,e1,e2⟩=>⟨a,e1,by omega⟩) ?_;have F:=rP (P:=prog) (Post:=Post) (wI:=w0) (l:=(B7+2)::l) ng
 have QV:∀(a:Addr)(wr:Bool),a.block<B7→cQ w0.heap.size l [] a wr→cQ w0.heap.size ((B7+2)::l) [] a wr:=fun a wr hb o=>⟨fun⟨A',h1,h2⟩=>by
  rcases List.mem_cons.1 h1 with rfl|h1
  ·rcases h2 with h2|h2<;>(cases h2;simp only at hb;omega)
  ·exact o.1 ⟨A',h1,h2⟩,o.2⟩
 have Vd:St (cQ w0.heap.size ((B7+2)::l) []) B7 53 _ _ 0 a7 w7:=⟨S7.env,S7.au.Px (fun r hr j hj o=>QV _ _ (by have:=S7.au.blk hr hj;rw[ur] at this;exact this) o) (fun r hr _ j hj o=>QV _ _ (by have:=S7.au.blk hr hj;rw[ur] at this;exact this) o),S7.sz⟩;clear S7;have S7:=Vd;clear Vd
 have hBn:∀(a:Addr)(wr:Bool),w0.heap.size≤a.block→(a.off=5∨a.off=6)∨cQ w0.heap.size ((B7+2)::l) [] a wr:=fun a wr hb=>by
  by_cases h5:a.off=5∨a.off=6
  ·exact .inl h5
  ·refine .inr ⟨fun⟨A',h1,h2⟩=>?_,fun _=>⟨hb,fun⟨p,hp,_⟩=>by cases hp⟩⟩
   rcases h2 with h2|h2
   ·cases h2;exact h5 (.inl rfl)
   ·cases h2;exact h5 (.inr rfl)
 obtain⟨ty,qV⟩:=wK V lb 0;rw[qV] at S7;refine fT F af lN S7 32 35 #[] fun cf7 Ho=>?_
 refine QY F hBn S7.au (by omega) fun wc ec w8 h8 o1 o2 Ce EU aN ET k8 ag=>Ho _ _ _ (by rw[ur] at h8;exact h8) fun a8 B8 S8 qZ aab=>?_
 have hB:∀(a:Addr)(wr:Bool),B7+3≤a.block→cQ w0.heap.size ((B7+2)::l) [] a wr:=fun a wr hb=>⟨fun⟨A',h1,h2⟩=>by
  have P6:A'<B7+3:=by
   rcases List.mem_cons.1 h1 with rfl|h1
   ·omega
   ·have:=hl A' h1;omega
  rcases h2 with h2|h2<;>(cases h2;simp only at hb;omega),fun _=>⟨by omega,fun⟨p,hp,_⟩=>by cases hp⟩⟩
 rw[ur] at S8;refine aD F hB af qZ S8 11 [] [] [] [(35,i6 0),(34,i6 V.nc),(33,.slice sa V.nc cap),(12,ptr (B7+2)),(11,ptr bo),(10,ptr bl),(9,ptr J),(4,ptr rs)] (fun M=>M) 0 59 [false] [] fun a9 w9 S9 oC PA Rl Mj=>?_
 have hpm:pM (jx (qo (B7+2) J HD O V lb sa cap eH fF wc ec) L Qc 0 [] (.slice none 0 0) To)=[bR (B7+2) [i6 0,.slice none 0 0],eR To,bR J [.slice none 0 0],vR none 5 (fun j=>zo (L.ev j)) 0 0 55,sR none 5 (fun _=>[]) 0 0,fR ⟨HD,0,none⟩ 1 (fun _=>[i6 0]) V.nc true,fR ⟨O,0,none⟩ 4 (fun _=>[i6 0,i6 0,i6 0,.slice none 0 0]) V.nc true]:=by
  simp only[pM,hL.now,hL.el,hL.us,hL.ou];rfl
 have hs9:Sat (cQ w0.heap.size ((B7+2)::l) []) w9 (pM (jx (qo (B7+2) J HD O V lb sa cap eH fF wc ec) L Qc 0 [] (.slice none 0 0) To)++(oR (B7+2) 2 [i6 ((0:Nat):Int)] true::(sO Qc 0++(u6 (B7+2) bl bo Qc 0++(oR (B7+2) 3 [.chan (some wc),.chan (some ec)] false::oR bo 0 [.slice (some ⟨O,0,none⟩) V.nc V.nc] false::oR bl 0 [tG V lb 0] false::bR rs [.slice none 0 0,.slice none 0 0]::(X++M)))))):=by
  rw[hpm,qV];have p1:=Sat.Ku (A:=[_,_,_]) S9.au;have p2:=Sat.Ku (A:=[_,_,_,_,_]) p1;have p3:=Sat.iV (Sat.iV (Sat.iV p2 (r:=eR To) rfl rfl) (r:=vR none 5 (fun j=>zo (L.ev j)) 0 0 55) rfl rfl) (r:=sR none 5 (fun _=>[]) 0 0) rfl rfl;exact p3.perm (Np ..)
 have BV:∀{c:Nat},cr w8 c→c<w8.heap.size:=fun h=>(Array.getElem?_eq_some_iff.1 h).1
 have UZ:∀o,o=5∨o=6→w9.cell? ⟨B7+2,o,none⟩=w8.cell? ⟨B7+2,o,none⟩∧w9.frozen? ⟨B7+2,o,none⟩=w8.frozen? ⟨B7+2,o,none⟩:=fun o ho=>Mj.cell _ (by show B7+2<w8.heap.size;omega) (fun⟨i,r,j,h1,h2,h3,h4⟩=>by
  have:=((S8.au.ok i r h1 j h3).2 h2).1.1;rw[h4] at this;exact this ⟨B7+2,List.mem_cons_self ..,by rcases ho with rfl|rfl;exact .inl rfl;exact .inr rfl⟩)
 rw[ur] at ag;have ag5:=ag.a5;have ag6:=ag.a6;refine At.assume ig fun hO=>At.keep (K':=K2 w0 (B7+2) (CU wc ec Qc 0)) (fun d=>⟨hO,⟨fun p hp=>(by cases hp),fun c hc=>?_⟩,⟨?_,?_⟩,⟨?_,?_⟩⟩) (GB (kk:=qo (B7+2) J HD O V lb sa cap eH fF wc ec) hV hL (List.mem_cons_self ..) hB af aJ (M:=oR (B7+2) 3 [.chan (some wc),.chan (some ec)] false::oR bo 0 [.slice (some ⟨O,0,none⟩) V.nc V.nc] false::oR bl 0 [tG V lb 0] false::bR rs [.slice none 0 0,.slice none 0 0]::(X++M)) ((((hX.cons rfl).cons rfl).cons rfl).cons rfl) (eH:=eH) (fF:=fF) (fun z=>?_) ?_ V.nc 0 Qc [] (.slice none 0 0) To a9 w9 _ rfl oC (by omega) rfl ⟨fun j hj=>by omega,fun i hi=>by omega,?_⟩ ?_ ?_ rfl ⟨S9.env,hs9,rfl⟩)
 ·show∃k',w9.heap[c]? =_
  have q1:cr w9 wc:=Mj.obj _ _ o1 (fun _ _ _ z=>by cases z);have q2:cr w9 ec:=Mj.obj _ _ o2 (fun _ _ _ z=>by cases z);simp only[CU,List.range_zero,List.map_nil,List.mem_cons,List.not_mem_nil,or_false] at hc;rcases hc with rfl|rfl
  ·exact⟨0,q1⟩
  ·exact⟨0,q2⟩
 ·exact(UZ 5 (.inl rfl)).1.trans ag5
 ·exact(UZ 5 (.inl rfl)).2.trans (ag.z 5)
 ·exact(UZ 6 (.inr rfl)).1.trans ag6
 ·exact(UZ 6 (.inr rfl)).2.trans (ag.z 6)
 ·obtain⟨ca,e1,e2⟩:=hC z
  exact⟨ca,e1,(e2.app X).cons.cons.cons.cons⟩
 ·intro f q en eb a1 w1 B1 h1 h2 h3 h4 h5 h6 h7 h8 S
  exact K wc ec f q en eb a1 w1 B1 (by omega) (by omega) aN h1 h2 h3 h4 h5 h6 h7 h8 S
 ·exact⟨by have:=BV o1;omega,by have:=BV o2;omega⟩
 ·refine⟨⟨.inl ⟨rfl,hL.el,rfl⟩,?_,Nat.zero_le _,fun a ha=>(by cases ha)⟩,⟨fun e he=>(by cases he),.inl ⟨rfl,rfl,rfl⟩⟩,fun z=>(by cases z)⟩
  show L.el≤0
  rw[hL.el];exact Nat.le_refl _
 ·exact⟨fun i hi=>(by cases hi),fun i hi=>absurd hi (Nat.not_lt_zero _),List.Pairwise.nil,fun i hi=>(by cases hi)⟩
end
end
section
open Go.Conc Go.RowKit
section
variable{P:Program}{main:Bool}{B:Nat}{Ok:Addr→Bool→Prop}{Ψ:Goroutine→World→Prop}
theorem EJ(F:aC P main (DX Ok) Ψ){b:Frame}(hk:b.kind=.normal){f n:Nat}{bs:List Bool}{qs:List Nat}{N c:Nat}{E:Env}{M:List ah}{a:Act}{cs:List Frame}{w:World}(d h:Nat)(args:Array Value)(hc:mH P E (pc P f n bs qs) d=some (h,args))(hn:nL (pc P f n bs qs)=pc P f (n+1) bs qs)(hd:d<N)(S:St Ok B N E M c a w)(K:∀cf,(∀(Ψ':Goroutine→World→Prop) v w',(∀a',aO ((d,v)::E) N a'→a'.defers=a.defers→Ψ' (G (b.at a' (pc P f (n+1) bs qs)) cs) w')→Ψ' (G (cf.finish v) cs) w')→Ψ (G (Frame.enter P h args .normal) (cf::cs)) w):Ψ (G (b.at a (pc P f n bs qs)) cs) w:=by
 obtain⟨hx,hc⟩:=az hc;simp only[Bool.and_eq_true,Bool.not_eq_true'] at hx;obtain⟨⟨⟨⟨h1,h2⟩,h3⟩,h4⟩,h5⟩:=hx;obtain⟨ops,i,r,kk,ht,ho,wU⟩:=eX h1
 split at hc
 ·rename_i f' vT hq
  simp only[Option.some.injEq,Prod.mk.injEq] at hc;obtain⟨rfl,rfl⟩:=hc;have hg:=xz h3 S.env ht
  have iE:(aU (pc P f n bs qs)).dst=some d:=by
   split at h5
   ·rename_i d' oD;rw[oD];simp at h5;rw[h5]
   ·cases h5
  have cw:execOp a.eval (aU (pc P f n bs qs))=execOp (ev E) (aU (pc P f n bs qs)):=execOp_congr h2 fun y hy=>S.env.eval (Array.all_eq_true_iff_forall_mem.1 h4 y hy)
  have dQ:=fG _ _ hq
  have cL:∀v,(b.at a (.inRegion ops (i::r)::kk)).finish v=b.at (a.put (some d) v) (pc P f (n+1) bs qs):=fun v=>by
   rw[Frame.finish_at,ho,←hn,wU];simp only[Option.bind_some,iE]
  generalize aU (pc P f n bs qs)=o at*;rw[ht];refine F.enter (f:=f') (args:=vT) ho hg (by rw[hk];decide) (fun d=>?_) (fun d=>?_) (K _ fun Ψ' v w' KK=>?_)
  ·rw[cw,←Sem.runT_fst (es:=#[]),dQ]
  ·unfold Sem.events;rw[cw,dQ]
  ·rw[cL];exact KK _ (S.env.put hd) (put_defers _ _ _)
 ·cases hc
end
section
variable{Post:Value→World→Prop}{w0:World}{l:List Nat}{ng:Nat}
abbrev Ll(w0:World)(l:List Nat)(kk:PK)(f:Bg)(cR:Frame)(oF:List Frame)(X M:List ah)(rs bl bo:Nat)(Lf:LS):RN:=
 {wI:=w0,l:=kk.A::l,k:={kk with T:=f.T,aX:=f.aX,sc:=M9 f},cR:=cR,oF:=oF,S:=u6 kk.A bl bo f kk.V.nc++(oR kk.A 3 [.chan (some kk.bU),.chan (some kk.bS)] false::oR bo 0 [.slice (some ⟨kk.O,0,none⟩) kk.V.nc kk.V.nc] false::oR bl 0 [tG kk.V kk.lb 0] false::(X++M)),W:=[bR rs [.slice none 0 0,.slice none 0 0]],Lf:=Lf,ba:=f.ba,bt:=f.bt,bw:=f.bw,bi:=f.bi,bl:=bl,bo:=bo}
structure T2(V:Ev0)(sa:Option Addr)(eH:Nat→Option Addr)(fF:Nat→Nat)(M:List ah):Prop where
 ro:∀r∈M,r.wr=false
 fl:Flat M
 Qb:0<V.nc→∃ca,sa=some ca∧Has M (fR ca 2 (fun j=>[i6 (V.st j),.slice (eH j) (V.nt j) (fF j)]) V.nc false)
 Im:∀c,c<V.nc→0<V.nt c→∃ta,eH c=some ta∧Has M (fR ta 3 (fun j=>uq (V.tr c j)) (V.nt c) false)
 err:Has M (oR 0 0 [.iface 217 (.agg #[.pointer (some ⟨1,121,none⟩)])] false)
theorem Oq{A bl bo:Nat}{f:Bg}{k j:Nat}(hj:j<k){r:ah}(hr:r∈Bn A bl bo f j):Has (u6 A bl bo f k) r:=by
 have hm:r∈u6 A bl bo f k:=List.mem_flatMap.2 ⟨j,List.mem_range.2 hj,hr⟩;obtain⟨i,hi⟩:=kV hm;refine⟨?_,i,hi⟩;simp only[Bn,List.mem_cons,List.not_mem_nil,or_false] at hr;rcases hr with rfl|rfl|rfl|rfl|rfl<;>rfl
theorem Tx{V:Ev0}(hV:vU V)(hl:∀x∈l,x<w0.heap.size){A J HD O cap rs bl bo bU bS:Nat}{lb:Nat→Nat}{sa:Option Addr}{eH:Nat→Option Addr}{fF:Nat→Nat}{f:Bg}{cR:Frame}{oF:List Frame}{X M:List ah}{Lf:LS}{w1:World}(hA:w0.heap.size≤A)(hw:w0.heap.size≤bU)(he:w0.heap.size≤bS)(aN:bU≠bS)(hI:Ub V bU bS f V.nc w1)(hM:T2 V sa eH fF M)(PY:Flat X)(SK:∀r∈X,r.wr=false)(hS:Bp V lb J 0 (X++M))(jM:Has X (Fb (lb V.nl) .nilIface (-1) J))(fK:Has X (oR (lb V.nl) 3 [.slice sa V.nc cap,.slice (some ⟨HD,0,none⟩) V.nc V.nc] false)):
 xO (Ll w0 l (qo A J HD O V lb sa cap eH fF bU bS) f cR oF X M rs bl bo Lf):=by
 have up:∀{r},Has (X++M) r→Has (Ll w0 l (qo A J HD O V lb sa cap eH fF bU bS) f cR oF X M rs bl bo Lf).S r:=fun h=>h.cons.cons.cons.app _
 have bg:∀{j r},j<V.nc→r∈Bn A bl bo f j→Has (Ll w0 l (qo A J HD O V lb sa cap eH fF bU bS) f cR oF X M rs bl bo Lf).S r:=fun hj hr=>(Oq hj hr).pre _
 refine⟨hV,List.mem_cons_self ..,fun x hx=>?_,hA,hw,he,fun j hj=>?_,aN,fun j hj=>?_,hI.inj,fun j hj=>rfl,fun hn=>?_,?_,?_,?_,?_,fun j hj=>bg hj (by simp[Bn]),fun j hj=>bg hj (by simp[Bn]),fun j hj=>bg hj (by simp[Bn]),fun j hj=>bg hj (by simp[Bn]),?_,?_⟩
 ·rcases List.mem_cons.1 hx with rfl|hx
  ·exact Nat.le_refl _
  ·have:=hl x hx
   show x≤A
   omega
 ·have:=(hI.lt j hj).2.1
  show w0.heap.size≤f.aX j
  omega
 ·have:=(hI.lt j hj).2
  show f.aX j≠bU∧f.aX j≠bS
  exact⟨by omega,by omega⟩
 ·obtain⟨ca,uW,bp⟩:=hM.Qb hn
  subst uW
  exact⟨fun j hj=>up (hS.lay j (Nat.zero_le _) hj),fun j hj hk=>up (hS.Ip j (Nat.zero_le _) hj hk),up (jM.pre _),up (fK.pre _),up (bp.app _),fun c hc hz=>by
   obtain⟨ta,h1,h2⟩:=hM.Im c hc hz;exact⟨ta,h1,up (h2.app _)⟩,fun i hi=>bg hi (by simp[Bn]),up (hM.err.app _)⟩
 ·exact(CA _ _ _ f _).app ((((PY.app hM.fl).cons rfl).cons rfl).cons rfl)
 ·exact Flat.nil.cons rfl
 ·intro r hr
  rcases List.mem_append.1 hr with hr|hr
  ·obtain⟨j,_,hr⟩:=List.mem_flatMap.1 hr
   simp only[Bn,List.mem_cons,List.not_mem_nil,or_false] at hr;rcases hr with rfl|rfl|rfl|rfl|rfl<;>rfl
  ·rcases List.mem_cons.1 hr with rfl|hr
   ·rfl
   ·rcases List.mem_cons.1 hr with rfl|hr
    ·rfl
    ·rcases List.mem_cons.1 hr with rfl|hr
     ·rfl
     ·rcases List.mem_append.1 hr with hr|hr
      ·exact SK r hr
      ·exact hM.ro r hr
 ·exact Has.app (C:=_::_) ⟨rfl,0,rfl⟩ _
 ·exact Has.app (C:=_::_::_) ⟨rfl,1,rfl⟩ _
 ·exact Has.app (C:=_::_::_::_) ⟨rfl,2,rfl⟩ _
end
end
end Go.Proofs.YtobagnjnbmgidaaGreatDoor
