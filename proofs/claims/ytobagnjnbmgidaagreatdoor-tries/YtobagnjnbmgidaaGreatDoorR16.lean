import Derived.Test.YtobagnjnbmgidaaGreatDoorR13
import Derived.Test.YtobagnjnbmgidaaGreatDoorB12
set_option linter.all false
set_option maxHeartbeats 8000000
set_option maxRecDepth 100000
namespace Go.Proofs.YtobagnjnbmgidaaGreatDoor
open Go.Conc Go.RowKit Tryz
section
variable{main:Bool}{B:Nat}{Ok:Addr→Bool→Prop}{Ψ:Goroutine→World→Prop}
theorem Q1(F:aC prog main (DX Ok) Ψ){b:Frame}(hk:b.kind=.normal){N c:Nat}{E:Env}{M:List ah}{a:Act}{cs:List Frame}{w:World}{t:List Item}(s d ty:Nat){n:Nat}{e:TypeId}{cells:List Value}(R6:∀w,(Instr.makeSlice ty (.int .i64 (n:Int)) (.int .i64 (n:Int))).run prog w=.ok (.slice (some ⟨w.heap.size,0,none⟩) n n) (w.alloc (.cells cells.toArray e)))(hme:∀w es,(Instr.makeSlice ty (.int .i64 (n:Int)) (.int .i64 (n:Int))).events prog w es=es)(ho:ow t=true)(aQ:Gz (aU t) s d ty=true)(hd:d<N)(hs:look E s=some (i6 n))(S:St Ok B N E M c a w)(K:∀a' w',World.alloc w (.cells cells.toArray e)=w'→Kp [] w w'→aO ((d,.slice (some ⟨w.heap.size,0,none⟩) n n)::E) N a'→a'.defers=a.defers→w'.heap.size=w.heap.size+1→Ψ (G (b.at a' (nL t)) cs) w'):Ψ (G (b.at a t) cs) w:=by
 obtain⟨ops,i,r,kk,ht,eF,hn⟩:=eX ho;obtain⟨g1,g2,g3⟩:=BR aQ;have dS:a.eval (.tmp s)=i6 n:=by rw[S.env.eval (by simp[kn,hs])];simp[ev,hs]
 have fM:∀d,(execOp a.eval (aU t)).run prog (w.at d)=.ok (.value (.slice (some ⟨w.heap.size,0,none⟩) n n)) ((w.at d).alloc (.cells cells.toArray e)):=fun d=>by
  unfold execOp;rw[g3];simp only[dS];have:=R6 (w.at d);simp[this]
  rfl
 have NX:∀d,raw prog a (aU t) (w.at d)=#[]:=fun d=>by
  unfold raw execOp;rw[g3];simp only[dS];have h1:=R6 (w.at d);have h2:=hme (w.at d) #[];simp[h1,h2]
 rw[ht];refine F.op eF (by simp[Region.wanted,g1]) (by rw[hk];decide) (fun d' K' zL=>?_);rw[fM d',alloc_at'];generalize ew:World.alloc w _=w1;have k1:Kp [] w w1:=Kp.alloc ew;have dH:=g9 ew rfl;refine zL _ w1 ⟨?_,?_⟩
 ·rw[NX,←ew,←alloc_at']
  exact DX.alloc _ _ (by simp)
 ·rw[←hn,g2]
  exact K _ w1 ew k1 (S.env.put hd) (put_defers _ _ _) (by omega)
theorem Q3(F:aC prog main (DX Ok) Ψ)(hB:HB B Ok){b:Frame}(hk:b.kind=.normal){N c:Nat}{E:Env}{M:List ah}{a:Act}{cs:List Frame}{w:World}{t:List Item}(s d:Nat){n:Nat}(ho:ow t=true)(aQ:Gz (aU t) s d 58=true)(hd:d<N)(hs:look E s=some (i6 n))(h9:n≤9){B':Nat}(hle:B≤B')(S:St Ok B' N E M c a w)(K:∀a' w',Sat Ok w' (fR ⟨w.heap.size,0,none⟩ 1 (fun _=>[i6 0]) n true::M)→aO ((d,.slice (some ⟨w.heap.size,0,none⟩) n n)::E) N a'→a'.defers=a.defers→w'.heap.size=w.heap.size+1→Ψ (G (b.at a' (nL t)) cs) w'):Ψ (G (b.at a t) cs) w:=by
 have ey:B≤w.heap.size:=by rw[S.sz];omega
 refine Q1 F hk s d 58 (VJ n h9) (Q5 n h9) ho aQ hd hs S fun a' w1 ew k1 hA gV hz=>?_
 refine K a' w1 (S.au.xA k1 (N:=[_]) (fun r hr=>?_) (List.pairwise_singleton ..) (fun r hr j hj=>?_)) hA gV hz
 ·simp only[List.mem_cons,List.not_mem_nil,or_false] at hr
  subst hr;refine Ac (fun j hj i hi=>?_) (fun a wr ha=>hB _ _ (by omega));refine⟨?_,aV ew rfl _⟩
  match i,hi with
  |0,_=>exact aI (i:=j*1+0) ew rfl (by simpa using zQ n j hj)
 ·simp only[List.mem_cons,List.not_mem_nil,or_false] at hr
  subst hr
  show w.heap.size≤(((⟨w.heap.size,0,none⟩:Addr).add (j.1*1)).add j.2).block
  rw[add_add];exact Nat.le_refl _
def Yt:Nat→List Value
 |0=>[]
 |n+1=>.bool false::.int .i64 0::.int .i64 0::.int .i64 0::.int .i64 0::.slice none 0 0::.int .i64 0::.int .i64 0::Yt n
theorem mkG(n:Nat)(h:n≤6)(w:World):(Instr.makeSlice 87 (.int .i64 (n:Int)) (.int .i64 (n:Int))).run prog w=.ok (.slice (some ⟨w.heap.size,0,none⟩) n n) (w.alloc (.cells (Yt n).toArray 208)):=by
 obtain rfl|rfl|rfl|rfl|rfl|rfl|rfl:n=0∨n=1∨n=2∨n=3∨n=4∨n=5∨n=6:=by omega
 all_goals kernel_rfl
theorem VK(n:Nat)(h:n≤6)(w:World)(es:Array Event):(Instr.makeSlice 87 (.int .i64 (n:Int)) (.int .i64 (n:Int))).events prog w es=es:=by
 obtain rfl|rfl|rfl|rfl|rfl|rfl|rfl:n=0∨n=1∨n=2∨n=3∨n=4∨n=5∨n=6:=by omega
 all_goals kernel_rfl
end
def mK(V:Ev0):Nat→LS
 |0=>⟨0,0,fun _=>⟨0,0,0,0,false⟩,0,fun _=>Uj 0,0,fun _=>⟨0,0,false,false,⟨0,0,[]⟩⟩,fun _=>0,fun _=>⟨0,⟨0,0,[]⟩⟩,0,fun _=>⟨0,0,0,0,0⟩⟩
 |k+1=>((mK V k).qb k).put ⟨V.st k,k,-1,0,false⟩
theorem vV(V:Ev0):∀k,(mK V k).now=0∧(mK V k).al=k∧(mK V k).tl=k∧(mK V k).wl=0∧(mK V k).el=0∧(∀i,(mK V k).us i=0)∧(∀i,(mK V k).ou i=⟨0,⟨0,0,[]⟩⟩)∧(∀i,i<k→(mK V k).ag i=⟨V.st i,i,-1,0,false⟩∧(mK V k).tk i=Uj i)
 |0=>⟨rfl,rfl,rfl,rfl,rfl,fun _=>rfl,fun _=>rfl,fun i h=>by omega⟩
 |k+1=>by
  obtain⟨h1,h2,h3,h4,h5,h6,h7,h8⟩:=vV V k;refine⟨h1,by show(mK V k).al+1=k+1;rw[h2],by show(mK V k).tl+1=k+1;rw[h3],h4,h5,h6,h7,fun i hi=>?_⟩
  show upd (mK V k).ag (mK V k).al _ i=_∧upd (mK V k).tk (mK V k).tl _ i=_
  rw[h2,h3]
  by_cases e:i=k
  ·subst e;simp[upd]
  ·have:=h8 i (by omega);simpa [upd,e] using this
section
variable{main:Bool}{B:Nat}{Ok:Addr→Bool→Prop}{Ψ:Goroutine→World→Prop}{V:Ev0}{Lf:LS}
theorem Bv(F:aC prog main (DX Ok) Ψ)(hB:HB B Ok){bb:Frame}(af:bb.kind=.normal){cs:List Frame}{C:List ah}{q4:Nat}(h9:V.nc≤9):
 ∀(m k:Nat)(s:RS)(a0:Act)(w:World)(B1:Nat),k+m=V.nc→s.V=V→(0<V.nc→∃ca,s.ca=some ca)→s.l=mK V k→RV Ok s→a0.defers=[]→B≤B1→w.heap.size=B1→
   St Ok B1 102 [(10,i6 k),(9,ptr s.gm),(4,ptr q4),(1,.slice s.ca V.nc s.cc)] (mR s++C) 0 a0 w→
   (∀s' a' w' B',Fx s s'→s'.oh=s.oh→s'.l=mK V V.nc→RV Ok s'→a'.defers=[]→B1≤B'→w'.heap.size=B'→St Ok B' 102 [(65,ptr s.gm),(9,ptr s.gm),(4,ptr q4)] (mR s'++C) 0 a' w'→Ψ (G (bb.at a' (pc prog 31 85 [false,false] [])) cs) w')→
   Ψ (G (bb.at a0 (pc prog 31 71 [false] [])) cs) w
 |0,k,s,a0,w,B1,hk,hV,Kg,hl,hv,aP,hle,dH,S0,K=>by
  have h1:decide ((k:Int)<(V.nc:Int))=false:=by simp;omega
  refine cJ F hB af aP S0 14 [] [0] [] [(65,ptr s.gm),(9,ptr s.gm),(4,ptr q4)] (fun M=>M) 0 85 [false,false] [] [(decide ((↑k:Int)<(↑V.nc:Int)),false)] [] [] fun a1 w1 S1 aG ck cV cW=>?_
  have e:k=V.nc:=by omega
  subst e;exact K s a1 w1 B1 Fx.dy rfl hl hv aG (Nat.le_refl _) (by omega) S1
 |m+1,k,s,a0,w,B1,hk,hV,Kg,hl,hv,aP,hle,dH,S0,K=>by
  have h1:decide ((k:Int)<(V.nc:Int))=true:=by simp;omega
  obtain⟨ca,uW⟩:=Kg (by omega);obtain⟨s,rfl⟩:=RS.Mq uW;replace hV:s.V=V:=hV;have hVn:s.V.nc=V.nc:=by rw[hV]
  replace hl:s.l=mK V k:=hl;obtain⟨f1,f2,f3,f4,f5,f6,f7,f8⟩:=vV V k;have su:s.l.tl=k:=by rw[hl];exact f3
  have fy:s.l.al=k:=by rw[hl];exact f2
  refine cJ F hB af aP S0 16 [] [2] [] [(54,i6 k),(53,ptr s.gm),(10,i6 k),(9,ptr s.gm),(4,ptr q4),(1,.slice (some ca) V.nc s.cc)] (fun M=>M) 0 87 [false,true] [] [(decide ((↑k:Int)<(↑V.nc:Int)),true)] [] [] fun a1 w1 S1 aG ck cV cW=>?_
  refine fT F af aG S1 55 43 #[ptr s.gm,i6 k,i6 (-1),i6 (-1),i6 (-1)] fun kP bK=>?_
  refine MV F hB (s:={s with ca:=some ca}) (c:=k) S1.au hv (by omega) (by show s.l.tl<1000000;omega) fun g' aj bA w2 h2 qU kX=>bK _ _ _ h2 fun a2 B2 S2 aW dV=>?_
  rw[show({s with ca:=some ca}:RS).l.tl=k from su] at S2;have nC:k<s.V.nc:=by omega
  refine cJ F hB af aW S2 11 [12,k,0,101] [2] [] [(63,.agg #[i6 (s.V.st k),i6 k,i6 (-1),i6 0,.bool false]),(56,ptr s.gm),(10,i6 k),(9,ptr s.gm),(4,ptr q4),(1,.slice (some ca) V.nc s.cc)] (fun M=>M) 0 99 [false,true] [] [] [((↑k:Int),V.nc)] [(1,(k,s.V.nc))] fun a3 w3 S3 bD eu fS gD=>?_
  refine fT F af bD S3 64 44 #[ptr s.gm,.agg #[i6 (s.V.st k),i6 k,i6 (-1),i6 0,.bool false]] fun vO ij=>?_
  refine Ls F hB (s:=RS.qb {s with ca:=some ca} g' aj bA k) ⟨s.V.st k,k,-1,0,false⟩ S3.au qU (by omega) (by show s.l.al<1000000000;omega) fun g2 c2 v2 w4 h4 NO Ay=>ij _ _ _ h4 fun a4 B4 S4 fC oJ=>?_
  have hw:IntKind.wrap .i64 ((k:Int)+1)=((k+1:Nat):Int):=by rw[bI (by omega) (by omega)];rfl
  refine aD F hB af fC S4 8 [] [] [] [(10,i6 (IntKind.wrap .i64 ((↑k:Int)+1))),(9,ptr s.gm),(4,ptr q4),(1,.slice (some ca) V.nc s.cc)] (fun M=>M) 0 108 [false,true] [] fun a5 w5 S5 dU jT kC rq=>?_
  rw[hw] at S5;rw[show pc prog 31 108 [false,true] []=pc prog 31 71 [false] [] by kernel_rfl];refine Bv F hB af h9 m (k+1) (RS.lP (RS.qb {s with ca:=some ca} g' aj bA k) g2 c2 v2 ((s.l.qb k).put ⟨s.V.st k,k,-1,0,false⟩)) a5 w5 B4 (by omega) hV (fun _=>⟨ca,rfl⟩) ?_ NO dU (by omega) (by omega) S5 fun s' a' w' B' g1 g2 g3 g4 g5 g6 g7 g8=>K s' a' w' B' ⟨g1.gm,g1.v,g1.la,g1.ca,g1.th,g1.oa,g1.oc⟩ g2 g3 g4 g5 (by omega) g7 g8
  show(s.l.qb k).put _=_
  rw[hl,hV];rfl
theorem Nx(F:aC prog main (DX Ok) Ψ)(hB:HB B Ok){cf:Frame}{cs:List Frame}{w:World}{s:RS}{C:List ah}(hS:Sat Ok w (mR s++C))(ey:B≤w.heap.size)(fy:s.l.al=0)(K:∀w',Sat Ok w' (mR s++C)→w.heap.size≤w'.heap.size→Ψ (G (cf.finish (i6 (-1))) cs) w'):Ψ (G (Frame.enter prog 45 #[ptr s.gm] .normal) (cf::cs)) w:=by
 have h1:decide ((0:Int)<(s.l.al:Int))=false:=by simp;omega
 refine iT f45 func45 _ rfl 48 (by kernel_rfl) hS fun bb a0 B1 hn af aJ aP S0 dH=>?_
 refine aD F hB af aP S0 15 [] [] [] [(4,i6 0),(3,i6 (-1)),(0,ptr s.gm)] (fun M=>M) 0 15 [] [] fun a1 w1 S1 aG ck cV cW=>?_
 refine cJ F hB af aG S1 18 [0,0,3,1] [0] [] [(2,i6 (-1))] (fun M=>M) 0 33 [false] [] [(decide (0<(↑s.l.al:Int)),false)] [] [] fun a2 w2 S2 aW dV kX A8=>?_
 refine dA F S2 af aJ aW [] (i6 (-1)) ?_;exact K w2 S2.au (by omega)
theorem Gw(F:aC prog main (DX Ok) Ψ)(hB:HB B Ok){cf:Frame}{cs:List Frame}{w:World}{s:RS}{C:List ah}(I:RI Ok B V w s C)(fy:s.l.al<1000000)(K:∀w',Sat Ok w' (mR s++C)→w.heap.size≤w'.heap.size→Ψ (G (cf.finish (i6 (cv s.l.ag s.l.al))) cs) w'):Ψ (G (Frame.enter prog 45 #[ptr s.gm] .normal) (cf::cs)) w:=by
 rcases I.rv.a.row with ⟨_,z,_⟩|⟨g,z,_⟩
 ·rw[z] at K
  exact Nx F hB I.au I.bw z fun w' h1 h2=>K w' h1 h2
 ·exact Ny F hB I.au I.bw z (by omega) fun w' h1 h2=>K w' h1 (by omega)
theorem yN:∀{C:List ah}{j:Nat}{r:ah},nth C j=some r→∃C',C.Perm (r::C')∧∀x,Has C x→x≠r→Has C' x
 |[],j,r,h=>by cases h
 |x::C,0,r,h=>by
  cases h
  refine⟨C,.refl _,fun x hx aN=>?_⟩;obtain⟨h1,i,h2⟩:=hx;cases i with
  |zero=>cases h2;exact absurd rfl aN
  |succ i=>exact⟨h1,i,h2⟩
 |x::C,j+1,r,h=>by
  obtain⟨C',p,hh⟩:=yN (C:=C) (j:=j) h;refine⟨x::C',(List.Perm.cons x p).trans (.swap ..),fun y hy aN=>?_⟩;obtain⟨h1,i,h2⟩:=hy;cases i with
  |zero=>exact⟨h1,0,h2⟩
  |succ i=>
   obtain⟨h3,k,h4⟩:=hh y ⟨h1,i,h2⟩ aN;exact⟨h1,k+1,h4⟩
theorem agl(F:aC prog main (DX Ok) Ψ)(hB:HB B Ok)(hV:vU V){bb:Frame}(af:bb.kind=.normal)(aJ:bb.fn=31){cf:Frame}{cs:List Frame}{q4:Nat}{C0:List ah}:
 ∀(n m:Nat)(s:RS)(C:List ah)(a0:Act)(w:World)(B1:Nat),m≤n→RI Ok B V w s C→Fin V Lf m none s.l→fL C0 C→(∃j,nth C j=some (bR q4 [.slice none 0 0,.slice none 0 0]))→a0.defers=[]→B≤B1→w.heap.size=B1→aO [(12,i6 (cv s.l.ag s.l.al)),(9,ptr s.gm),(4,ptr q4)] 102 a0→
   (∀s' C' w',Fx s s'→s'.l=Lf→(∀r,Has C0 r→Has C' r)→RI Ok B V w' s' C'→w.heap.size≤w'.heap.size→Ψ (G (cf.finish (.tuple #[.agg #[.slice (some s'.oa) s'.V.nc s'.oc,.slice s'.ea s'.l.el s'.ec],i6 0,i6 0])) cs) w')→
   Ψ (G (bb.at a0 (pc prog 31 90 [false,false] [])) (cf::cs)) w
 |0,m,s,C,a0,w,B1,hm,I,hf,hi,hj,aP,hle,dH,hA,K=>by
  have:m=0:=by omega
  subst this;exact hf.elim
 |n+1,m,s,C,a0,w,B1,hm,I,hf,hi,hj,aP,hle,dH,hA,K=>by
  cases m with
  |zero=>exact hf.elim
  |succ m=>
   have fy:=hf.1;have Z6:=I.v;rcases tE s.l.ag s.l.al with hn|⟨i,UK,hn⟩
   ·have WQ:s.l=Lf:=by have:=hf.2;rwa[if_pos (by omega)] at this
    obtain⟨j,hj⟩:=hj;obtain⟨C2,p,hp⟩:=yN hj;rw[hn] at hA;have S0:St Ok B1 102 [(12,i6 (-1)),(9,ptr s.gm),(4,ptr q4)] (bR q4 [.slice none 0 0,.slice none 0 0]::(mR s++C2)) 0 a0 w:=⟨hA,I.au.perm ((p.append_left (mR s)).trans List.perm_middle),dH⟩;refine aD F hB af aP S0 18 [1,0,8,2,0,0,0,2] [1] [] [(6,i6 0),(5,i6 0),(4,ptr q4)] (fun M=>gH 0 (0,1) (.slice s.ea s.l.el s.ec) (gH 0 (0,0) (.slice (some s.oa) s.V.nc s.oc) (M))) 0 108 [false,false,false] [] fun a1 w1 S1 aG ck cV cW=>?_
    refine dA F S1 af aJ aG [0,0,0,2] (.tuple #[.agg #[.slice (some s.oa) s.V.nc s.oc,.slice s.ea s.l.el s.ec],i6 0,i6 0]) ?_;have hH:∀r,Has C r→Has C2 r:=fun r hr=>hp r hr (fun z=>by have:=hr.1;rw[z] at this;cases this)
    have hCh:∀h L,pV B C h L→pV B C2 h L:=fun h L z=>by
     rcases z with z|⟨ca,cap,i,z1,z2,z3,z4⟩
     ·exact .inl z
     ·obtain⟨_,i',dJ⟩:=hH _ ⟨rfl,i,z2⟩;exact .inr ⟨ca,cap,i',z1,dJ,z3,z4⟩
    exact K s C2 w1 Fx.dy WQ (fun r hr=>hH r (fL.has hi hr)) ⟨I.v,S1.au.tail,I.rv,by omega,I.la,I.ca,fun j hj=>hCh _ _ (I.oh j hj),fun j hj=>hCh _ _ (I.wh j hj),fun c h1 h2=>by
     obtain⟨ta,h3,h4⟩:=I.Im c h1 h2;exact⟨ta,h3,hH _ h4⟩⟩ (by omega)
   ·have ho:=(r7 _ _ _ hn).2
    rw[hn] at hA;have S0:St Ok B1 102 [(12,i6 i),(9,ptr s.gm),(4,ptr q4)] (mR s++C) 0 a0 w:=⟨hA,I.au,dH⟩
    obtain⟨ag,oP⟩:∃g,s.aa=some g:=by
     rcases I.rv.a.row with ⟨_,z,_⟩|⟨g,z,_⟩
     ·omega
     ·exact⟨_,z⟩
    obtain⟨s,rfl⟩:=RS.Mt oP;replace UK:i<s.l.al:=UK;replace fy:s.l.al<1000000:=fy;replace hn:cv s.l.ag s.l.al=i:=hn;replace hf:Fin V Lf (m+1) none s.l:=hf;replace Z6:s.V=V:=Z6;refine cJ F hB af aP S0 20 [0,0,3,1,1,i,4,101] [3,2] [] [(12,i6 i),(9,ptr s.gm),(4,ptr q4)] (fun M=>gH 1 (i,4) (.bool true) (M)) 0 110 [false,false,true] [] [] [((↑i:Int),s.l.al)] [(1,(i,s.l.al))] fun a1 w1 S1 aG ck cV cW=>?_
    replace S1:St Ok B1 102 _ (mR {s with aa:=some ag,l:={s.l with ag:=upd s.l.ag i {s.l.ag i with o:=true}}}++C) 0 a1 w1:=⟨S1.env,S1.au.re 1 rfl rfl _ fun j _ f _=>iz rfl (show 4<5 by decide) j f,S1.sz⟩;have hu:upd s.l.ag i {s.l.ag i with o:=true} i={s.l.ag i with o:=true}:=by simp[upd]
    refine cJ F hB af aG S1 15 [0,0,3,1,1,i,0,101,0,0,2,1] [2] [] [(12,i6 i),(9,ptr s.gm),(4,ptr q4)] (fun M=>gH 0 (0,2) (i6 (upd s.l.ag i (rB.mk (s.l.ag i).a (s.l.ag i).t (s.l.ag i).w (s.l.ag i).c true) i).a) (M)) 0 125 [false,false,true] [] [] [((↑i:Int),s.l.al)] [(1,(i,s.l.al))] fun a2 w2 S2 aW dV kX A8=>?_
    rw[hu] at S2;replace S2:St Ok B1 102 _ (mR {s with aa:=some ag,l:=s.l.pop i}++C) 0 a2 w2:=⟨S2.env,S2.au,S2.sz⟩;refine cJ F hB af aW S2 10 [0,0,3,1,1,i,0,105] [2] [] [(96,.agg #[i6 (upd s.l.ag i (rB.mk (s.l.ag i).a (s.l.ag i).t (s.l.ag i).w (s.l.ag i).c true) i).a,i6 (upd s.l.ag i (rB.mk (s.l.ag i).a (s.l.ag i).t (s.l.ag i).w (s.l.ag i).c true) i).t,i6 (upd s.l.ag i (rB.mk (s.l.ag i).a (s.l.ag i).t (s.l.ag i).w (s.l.ag i).c true) i).w,i6 (upd s.l.ag i (rB.mk (s.l.ag i).a (s.l.ag i).t (s.l.ag i).w (s.l.ag i).c true) i).c,.bool (upd s.l.ag i (rB.mk (s.l.ag i).a (s.l.ag i).t (s.l.ag i).w (s.l.ag i).c true) i).o]),(89,ptr s.gm),(9,ptr s.gm),(4,ptr q4)] (fun M=>M) 0 135 [false,false,true] [] [] [((↑i:Int),s.l.al)] [(5,(i,s.l.al))] fun a3 w3 S3 bD eu fS gD=>?_
    rw[hu] at S3;refine fT F af bD S3 97 46 #[ptr s.gm,.agg #[i6 (s.l.ag i).a,i6 (s.l.ag i).t,i6 (s.l.ag i).w,i6 (s.l.ag i).c,.bool true]] fun vO ij=>?_
    have I3:RI Ok B V w3 {s with aa:=some ag,l:=s.l.pop i} C:=I.mv S3.au ⟨I.rv.a,I.rv.t,I.rv.w,I.rv.e⟩ ⟨rfl,rfl,rfl,rfl,rfl,rfl,rfl⟩ fL.dy (by omega) I.oh I.wh;refine Nk F hB hV (s:={s with aa:=some ag,l:=s.l.pop i}) (L:=s.l) (e:={s.l.ag i with o:=true}) I3 rfl hf hn rfl fun s' C' w4 m' I4 uR fx ZS wY oJ=>ij _ _ _ I4.au fun a4 B4 S4 fC aac=>?_
    have W0:s'.gm=s.gm:=fx.gm;rw[←W0] at S4;refine aD F hB af fC S4 4 [] [] [] [(69,ptr s'.gm),(9,ptr s'.gm),(4,ptr q4)] (fun M=>M) 0 140 [false,false,true] [] fun a5 w5 S5 dU jT kC rq=>?_
    refine fT F af dU S5 70 45 #[ptr s'.gm] fun TF xg=>?_
    have Xp:s'.l.al<1000000:=by
     cases m' with
     |zero=>exact wY.elim
     |succ m'=>exact wY.1
    refine Gw F hB {I4 with au:=S5.au,bw:=by omega} Xp fun w6 h6 GO=>xg _ _ _ h6 fun a6 B6 S6 kF xX=>?_
    refine aD F hB af kF S6 3 [] [] [] [(12,i6 (cv s'.l.ag s'.l.al)),(9,ptr s'.gm),(4,ptr q4)] (fun M=>M) 0 144 [false,false,true] [] fun a7 w7 S7 lN ur Ea Kt=>?_
    rw[show pc prog 31 144 [false,false,true] []=pc prog 31 90 [false,false] [] by kernel_rfl];obtain⟨j,hj⟩:=hj;exact agl F hB hV af aJ n m' s' C' a7 w7 B6 (by omega) {I4 with au:=S7.au,bw:=by omega} wY (hi.trans ZS) (ZS j _ hj) lN (by omega) (by omega) S7.env fun s2 C2 w8 g1 g2 g3 g4 g5=>K s2 C2 w8 ⟨g1.gm.trans fx.gm,g1.v.trans fx.v,g1.la.trans fx.la,g1.ca.trans fx.ca,g1.th.trans fx.th,g1.oa.trans fx.oa,g1.oc.trans fx.oc⟩ g2 g3 g4 (by omega)
end
section
variable{main:Bool}{B:Nat}{Ok:Addr→Bool→Prop}{Ψ:Goroutine→World→Prop}{V:Ev0}{Lf:LS}
theorem sM{Ok:Addr→Bool→Prop}:Vc Ok none 0 0:=⟨.inl ⟨rfl,rfl,rfl⟩,Nat.le_refl _,Nat.zero_le _,fun a h=>by cases h⟩
abbrev Vz(V:Ev0)(gm u o:Nat)(gt:Value)(sL sa:Option Addr)(cg cap:Nat)(eH:Nat→Option Addr)(fF:Nat→Nat):RS:=
 {gm:=gm,la:=sL,lc:=cg,ca:=sa,cc:=cap,eH:=eH,fF:=fF,aa:=none,ac:=0,av:=fun _=>[],ta:=none,tc:=0,tv:=fun _=>[],wa:=none,wc:=0,wv:=fun _=>[],wh:=fun _=>.slice none 0 0,ua:=⟨u,0,none⟩,uc:=V.nc,gt:=gt,oa:=⟨o,0,none⟩,oc:=V.nc,oh:=fun _=>.slice none 0 0,ea:=none,ec:=0,vv:=fun _=>[],V:=V,l:=mK V 0}
theorem Js{Ok:Addr→Bool→Prop}{w:World}{V:Ev0}{gm u o:Nat}{gt:Value}{sL sa:Option Addr}{cg cap:Nat}{eH:Nat→Option Addr}{fF:Nat→Nat}{C:List ah}(h:Sat Ok w (fR ⟨o,0,none⟩ 4 (fun _=>[i6 0,i6 0,i6 0,.slice none 0 0]) V.nc true::fR ⟨u,0,none⟩ 1 (fun _=>[i6 0]) V.nc true::bR gm (mC (Vz V gm u o gt sL sa cg cap eH fF))::C))(hl:0<V.nl→∃la,sL=some la∧Has C (fR la 6 (fun i=>wL (V.ly i)) V.nl false))(hc:0<V.nc→∃ca,sa=some ca∧Has C (fR ca 2 (fun j=>[i6 (V.st j),.slice (eH j) (V.nt j) (fF j)]) V.nc false)):
 Sat Ok w (mR (Vz V gm u o gt sL sa cg cap eH fF)++C):=by
 let s:=Vz V gm u o gt sL sa cg cap eH fF
 have h1:=Sat.back (A:=[bR gm (mC s)]) (Sat.back (A:=[fR ⟨u,0,none⟩ 1 (fun _=>[i6 0]) V.nc true,bR gm (mC s)]) h)
 let A3:List ah:=[bR gm (mC s),fR ⟨u,0,none⟩ 1 (fun _=>[i6 0]) V.nc true,fR ⟨o,0,none⟩ 4 (fun _=>[i6 0,i6 0,i6 0,.slice none 0 0]) V.nc true]
 have h2:Sat Ok w (A3++(fR (sa.getD ⟨0,0,none⟩) 2 (fun j=>[i6 (V.st j),.slice (eH j) (V.nt j) (fF j)]) V.nc false::C)):=by
  refine Sat.back (A:=A3) ?_
  by_cases z:0<V.nc
  ·obtain⟨ca,rfl,hh⟩:=hc z
   exact Sat.get h1 (hh.app A3)
  ·exact Sat.iV h1 (by show V.nc=0;omega) rfl
 have h3:Sat Ok w (A3++(fR (sL.getD ⟨0,0,none⟩) 6 (fun j=>BU (V.ly j)) V.nl false::fR (sa.getD ⟨0,0,none⟩) 2 (fun j=>[i6 (V.st j),.slice (eH j) (V.nt j) (fF j)]) V.nc false::C)):=by
  refine Sat.back (A:=A3) ?_
  by_cases z:0<V.nl
  ·obtain⟨la,rfl,hh⟩:=hl z
   exact Sat.get h2 ((hh.cons).app A3)
  ·exact Sat.iV h2 (by show V.nl=0;omega) rfl
 have h4:=Sat.back (A:=A3) (Sat.iV (Sat.back (A:=A3) (Sat.iV h3 (r:=sR s.ea 5 s.vv s.l.el s.ec) rfl rfl)) (r:=vR s.ea 5 (fun j=>zo (s.l.ev j)) s.l.el s.ec 55) rfl rfl);have k1:=Sat.back (A:=[bR gm (mC s)]) (Sat.iV h4 (r:=sR s.wa 7 s.wv s.l.wl s.wc) rfl rfl);have k2:=Sat.back (A:=[bR gm (mC s)]) (Sat.iV k1 (r:=vR s.wa 7 (fun j=>sI (s.l.wt j,s.wh j)) s.l.wl s.wc 136) rfl rfl);have k3:=Sat.back (A:=[bR gm (mC s)]) (Sat.iV k2 (r:=sR s.ta 19 s.tv s.l.tl s.tc) rfl rfl);have k4:=Sat.back (A:=[bR gm (mC s)]) (Sat.iV k3 (r:=vR s.ta 19 (fun j=>FM (s.l.tk j)) s.l.tl s.tc 131) rfl rfl);have k5:=Sat.back (A:=[bR gm (mC s)]) (Sat.iV k4 (r:=sR s.aa 5 s.av s.l.al s.ac) rfl rfl);exact Sat.back (A:=[bR gm (mC s)]) (Sat.iV k5 (r:=vR s.aa 5 (fun j=>EA (s.l.ag j)) s.l.al s.ac 93) rfl rfl)
theorem QC(F:aC prog main (DX Ok) Ψ)(hB:HB B Ok){cf:Frame}{cs:List Frame}{w:World}{cg cap:Nat}{sL sa:Option Addr}{eH:Nat→Option Addr}{fF:Nat→Nat}{m:Nat}{M:List ah}(hV:vU V)(hf:Fin V Lf m none (mK V V.nc))(Ol:0<V.nc→∃ca,sa=some ca∧Has M (fR ca 2 (fun j=>[i6 (V.st j),.slice (eH j) (V.nt j) (fF j)]) V.nc false))(V4:∀c,c<V.nc→0<V.nt c→∃ta,eH c=some ta∧Has M (fR ta 3 (fun j=>uq (V.tr c j)) (V.nt c) false))(P2:0<V.nl→∃la,sL=some la∧Has M (fR la 6 (fun i=>wL (V.ly i)) V.nl false))(hS:Sat Ok w M)(ey:B≤w.heap.size)(vD:∀(cf:Frame)(cs:List Frame)(w':World)(M':List ah),(∀r,Has M r→Has M' r)→Sat Ok w' M'→B≤w'.heap.size→(∀w2,Sat Ok w2 M'→w'.heap.size≤w2.heap.size→Ψ (G (cf.finish (.tuple #[i6 0,i6 0])) cs) w2)→Ψ (G (Frame.enter prog 17 #[.slice sL V.nl cg,.slice sa V.nc cap] .normal) (cf::cs)) w')(K:∀s C w',s.l=Lf→s.V=V→s.oc=V.nc→(∀r,Has M r→Has C r)→RI Ok B V w' s C→w.heap.size≤w'.heap.size→Ψ (G (cf.finish (.tuple #[.agg #[.slice (some s.oa) V.nc V.nc,.slice s.ea s.l.el s.ec],i6 0,i6 0])) cs) w'):
 Ψ (G (Frame.enter prog 31 #[.slice sL V.nl cg,.slice sa V.nc cap] .normal) (cf::cs)) w:=by
 refine iT f31 func31 _ rfl 102 (by kernel_rfl) hS fun bb a0 B1 hn af aJ aP S0 dH=>?_
 refine aD F hB af aP S0 10 [] [] [] [(15,.slice sa V.nc cap),(14,.slice sL V.nl cg),(4,ptr B1),(0,.slice sL V.nl cg),(1,.slice sa V.nc cap)] (fun M=>bR (B1) [.slice none 0 0,.slice none 0 0]::(M)) 1 10 [] [] fun a1 w1 S1 aG ck cV cW=>?_
 refine fT F af aG S1 16 17 #[.slice sL V.nl cg,.slice sa V.nc cap] fun kP bK=>?_
 refine vD _ _ _ _ (fun r hr=>hr.cons) S1.au (by omega) fun w2 h2 Py=>bK _ _ _ h2 fun a2 B2 S2 aW dV=>?_
 refine aD F hB af aW S2 27 [] [1] [] [(30,i6 V.nl),(28,ptr B2),(9,ptr B2),(4,ptr B1),(1,.slice sa V.nc cap)] (fun M=>bR (B2) [.slice sL V.nl cg,.slice sa V.nc cap,i6 0,.slice none 0 0,.slice none 0 0,.slice none 0 0,.slice none 0 0,.slice none 0 0,.slice none 0 0,.slice none 0 0]::(M)) 1 38 [false] [] fun a3 w3 S3 bD eu fS gD=>?_
 have Eb:=hV.nl;have PI:=hV.nc;refine Q1 F af 30 31 87 (mkG V.nl Eb) (VK V.nl Eb) (by kernel_rfl) (by kernel_rfl) (by decide) rfl S3 fun a4 w4 fD k4 yf fC oJ=>?_
 rw[show nL (pc prog 31 38 [false] [])=pc prog 31 39 [false] [] by kernel_rfl];have S4:St Ok w4.heap.size 102 _ _ 0 a4 w4:=⟨yf,S3.au.JR k4,rfl⟩;replace fC:=fC.trans bD;generalize hB4:w4.heap.size=B4 at S4 oJ;refine aD F hB af fC S4 9 [0,0,7,1] [] [] [(36,i6 V.nc),(34,ptr B2),(9,ptr B2),(4,ptr B1),(1,.slice sa V.nc cap)] (fun M=>gH 0 (0,7) (.slice (some ⟨Array.size w3.heap,0,none⟩) V.nl V.nl) (M)) 0 48 [false] [] fun a5 w5 S5 dU jT kC rq=>?_
 refine Q3 F hB af 36 37 (by kernel_rfl) (by kernel_rfl) (by decide) rfl PI (by omega) S5 fun a6 w6 h6 P5 kF xX=>?_
 rw[show nL (pc prog 31 48 [false] [])=pc prog 31 49 [false] [] by kernel_rfl];have S6:St Ok w6.heap.size 102 _ _ 0 a6 w6:=⟨P5,h6,rfl⟩;replace kF:=kF.trans dU;generalize hB6:w6.heap.size=B6 at S6 xX;refine aD F hB af kF S6 9 [1,0,6,1] [] [] [(42,i6 V.nc),(40,ptr B2),(9,ptr B2),(4,ptr B1),(1,.slice sa V.nc cap)] (fun M=>gH 1 (0,6) (.slice (some ⟨Array.size w5.heap,0,none⟩) V.nc V.nc) (M)) 0 58 [false] [] fun a7 w7 S7 lN ur Ea Kt=>?_
 refine LA F (fun a wr z=>hB a wr (by omega)) af 42 43 (by kernel_rfl) (by kernel_rfl) (by decide) rfl PI S7 fun a8 w8 h8 hA8 qZ ET k8=>?_
 rw[show nL (pc prog 31 58 [false] [])=pc prog 31 59 [false] [] by kernel_rfl];have S8:St Ok w8.heap.size 102 _ _ 0 a8 w8:=⟨hA8,h8,rfl⟩;replace qZ:=qZ.trans lN;generalize hB8:w8.heap.size=B8 at S8 ET;refine aD F hB af qZ S8 12 [2,0,8,1] [] [] [(10,i6 0),(9,ptr B2),(4,ptr B1),(1,.slice sa V.nc cap)] (fun M=>gH 2 (0,8) (.slice (some ⟨Array.size w7.heap,0,none⟩) V.nc V.nc) (M)) 0 71 [false] [] fun a9 w9 S9 oC PA Rl Mj=>?_
 have h9:=Js (C:=bR B1 [.slice none 0 0,.slice none 0 0]::M) (eH:=eH) (fF:=fF) S9.au (fun z=>by obtain⟨la,z1,z2⟩:=P2 z;exact⟨la,z1,z2.cons⟩) (fun z=>by obtain⟨ca,z1,z2⟩:=Ol z;exact⟨ca,z1,z2.cons⟩);refine Bv F hB af PI V.nc 0 _ a9 w9 B8 (Nat.zero_add _) rfl (fun z=>by obtain⟨ca,z1,_⟩:=Ol z;exact⟨ca,z1⟩) rfl ⟨sM,sM,sM,sM⟩ oC (by omega) (by omega) ⟨S9.env,h9,S9.sz⟩ fun s' IJ rC Yq g1 g2 g3 g4 kG g6 wP rA=>?_
 have hL:=vV V V.nc
 have I10:RI Ok B V rC s' (bR B1 [.slice none 0 0,.slice none 0 0]::M):=⟨g1.v,rA.au,g4,by omega,fun z=>by obtain⟨la,z1,_⟩:=P2 z;exact⟨la,g1.la.trans z1⟩,fun z=>by obtain⟨ca,z1,_⟩:=Ol z;exact⟨ca,g1.ca.trans z1⟩,fun j hj=>by rw[g2,g3,hL.2.2.2.2.2.2.1];exact .inl ⟨rfl,rfl⟩,fun j hj=>by rw[g3,hL.2.2.2.1] at hj;omega,fun c h1 h2=>by
  obtain⟨ta,z1,z2⟩:=V4 c h1 h2;exact⟨ta,by rw[g1.th];exact z1,z2.cons⟩⟩
 have W0:s'.gm=B2:=g1.gm;rw[←W0] at rA;refine fT F af kG rA 66 45 #[ptr s'.gm] fun X5 Hr=>?_
 refine Gw F hB I10 (by rw[g3,hL.2.1];omega) fun Qp yg NL=>Hr _ _ _ yg fun Yg B11 Fe Ek Rk=>?_
 refine aD F hB af Ek Fe 4 [] [] [] [(12,i6 (cv s'.l.ag s'.l.al)),(9,ptr s'.gm),(4,ptr B1)] (fun M=>M) 0 90 [false,false] [] fun TN Qo EP wZ JV Rn Ta=>?_
 refine agl F hB hV af aJ m m s' (bR B1 [.slice none 0 0,.slice none 0 0]::M) TN Qo B11 (Nat.le_refl _) {I10 with au:=EP.au,bw:=by omega} (by rw[g3];exact hf) fL.dy ⟨0,rfl⟩ wZ (by omega) (by omega) EP.env fun s2 C2 K7 k1 k2 k3 k4 k5=>?_
 have ZJ:s2.oc=V.nc:=k1.oc.trans g1.oc;have Z4:s2.V=V:=k1.v.trans g1.v;have:=K s2 C2 K7 k2 Z4 ZJ (fun r hr=>k3 r hr.cons) k4 (by omega);rw[ZJ,Z4];exact this
theorem Na(F:aC prog main (DX Ok) Ψ)(hB:HB B Ok){cf:Frame}{cs:List Frame}{w:World}{c i:Int}{sL sa:Option Addr}{nl nc cg cap:Nat}{M:List ah}(hc:c≠0)(hS:Sat Ok w M)(ey:B≤w.heap.size)(vD:∀(cf:Frame)(cs:List Frame)(w':World)(M':List ah),(∀r,Has M r→Has M' r)→Sat Ok w' M'→B≤w'.heap.size→(∀w2,Sat Ok w2 M'→w'.heap.size≤w2.heap.size→Ψ (G (cf.finish (.tuple #[i6 c,i6 i])) cs) w2)→Ψ (G (Frame.enter prog 17 #[.slice sL nl cg,.slice sa nc cap] .normal) (cf::cs)) w')(K:∀w',Sat Ok w' M→w.heap.size≤w'.heap.size→Ψ (G (cf.finish (.tuple #[.agg #[.slice none 0 0,.slice none 0 0],i6 c,i6 i])) cs) w'):
 Ψ (G (Frame.enter prog 31 #[.slice sL nl cg,.slice sa nc cap] .normal) (cf::cs)) w:=by
 have eP:(c !=0)=true:=by simpa using hc
 refine iT f31 func31 _ rfl 102 (by kernel_rfl) hS fun bb a0 B1 hn af aJ aP S0 dH=>?_
 refine aD F hB af aP S0 10 [] [] [] [(15,.slice sa nc cap),(14,.slice sL nl cg),(4,ptr B1),(0,.slice sL nl cg),(1,.slice sa nc cap)] (fun M=>bR (B1) [.slice none 0 0,.slice none 0 0]::(M)) 1 10 [] [] fun a1 w1 S1 aG ck cV cW=>?_
 refine fT F af aG S1 16 17 #[.slice sL nl cg,.slice sa nc cap] fun kP bK=>?_
 refine vD _ _ _ _ (fun r hr=>hr.cons) S1.au (by omega) fun w2 h2 Py=>bK _ _ _ h2 fun a2 B2 S2 aW dV=>?_
 refine cJ F hB af aW S2 22 [0,0,0,2] [2] [] [(6,i6 i),(5,i6 c),(4,ptr B1)] (fun M=>M) 0 33 [true] [] [(c !=0,true)] [] [] fun a3 w3 S3 bD eu fS gD=>?_
 refine dA F S3 af aJ bD [0,0,0,2] (.tuple #[.agg #[.slice none 0 0,.slice none 0 0],i6 c,i6 i]) ?_;exact K w3 S3.au.tail (by omega)
end
end Go.Proofs.YtobagnjnbmgidaaGreatDoor
