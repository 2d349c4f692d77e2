import Derived.Test.YtobagnjnbmgidaaGreatDoorL1
set_option linter.all false
set_option maxHeartbeats 8000000
set_option maxRecDepth 100000
namespace Go.Proofs.YtobagnjnbmgidaaGreatDoor
open Go.Conc Go.RowKit Tryz
def ir(L:Nat→Nat→Int):Nat→Nat
 |0=>0
 |i+1=>if L i 0≤2 then ir L i+1 else ir L i
def pL(L:Nat→Nat→Int):Nat→Nat→Nat→Int
 |0=>fun _ _=>0
 |i+1=>if L i 0≤2 then upd (pL L i) (ir L i) (L i) else pL L i
theorem HF(L:Nat→Nat→Int):∀i,ir L i≤i
 |0=>Nat.le_refl _
 |i+1=>by have:=HF L i;unfold ir;split<;>omega
theorem HG(L:Nat→Nat→Int):∀i j,j<ir L i→pL L i j 0≤2
 |0,j,h=>by cases h
 |i+1,j,h=>by
  have ih:=HG L i j;unfold ir at h;unfold pL
  by_cases hk:L i 0≤2
  ·rw[if_pos hk] at h ⊢
   by_cases e:j=ir L i
   ·subst e;simp only[upd,if_true];exact hk
   ·simp only[upd,if_neg e];exact ih (by omega)
  ·rw[if_neg hk] at h ⊢;exact ih h
theorem JE(L:Nat→Nat→Int)(i:Nat):∀u∈r8 L i,u.oneCell'=true:=by intro u hu;simp at hu;rcases hu with rfl|rfl|rfl|rfl|rfl|rfl<;>rfl
theorem Vr:vY prog 22 51 6 48=true:=by kernel_rfl
section
variable{main:Bool}{B:Nat}{Ok:Addr→Bool→Prop}{Ψ:Goroutine→World→Prop}
theorem Av(F:aC prog main (DX Ok) Ψ)(hB:HB B Ok){bb:Frame}(af:bb.kind=.normal){cs:List Frame}{M:List ah}{s0 sa:Option Addr}{n c0 mm gk:Nat}{L:Nat→Nat→Int}(hn:n<2932031007403)(NV:0<n→∃a,s0=some a):
 ∀(m i:Nat)(C:List ah)(sl:Option Addr)(cap:Nat)(vs:Nat→List Value)(a0:Act)(w:World)(B2:Nat),i+m=n→Vc Ok sl (ir L i) cap→a0.defers=[]→B≤B2→w.heap.size=B2→St Ok B2 69 [(9,i6 i),(8,.slice sl (ir L i) cap),(0,.slice s0 n c0),(1,.slice sa mm gk),(2,i6 2)] (vR sl 6 (r8 (pL L i)) (ir L i) cap 51::sR sl 6 vs (ir L i) cap::fR (s0.getD ⟨0,0,none⟩) 6 (r8 L) n false::(C++M)) 0 a0 w→
   (∀C sl cap vs a' w' B',Vc Ok sl (ir L n) cap→a'.defers=[]→B≤B'→w.heap.size≤B'→w'.heap.size=B'→St Ok B' 69 [(42,.slice sa mm gk),(41,.slice sl (ir L n) cap),(8,.slice sl (ir L n) cap),(1,.slice sa mm gk)] (vR sl 6 (r8 (pL L n)) (ir L n) cap 51::sR sl 6 vs (ir L n) cap::fR (s0.getD ⟨0,0,none⟩) 6 (r8 L) n false::(C++M)) 0 a' w'→Ψ (G (bb.at a' (pc prog 21 42 [false,false] [])) cs) w')→Ψ (G (bb.at a0 (pc prog 21 28 [false] [])) cs) w
 |0,i,C,sl,cap,vs,a0,w,B2,hi,hv,aP,sD,dH,S0,K=>by
  have g1:decide ((i:Int)<(n:Int))=false:=by simp;omega
  refine cJ F hB af aP S0 14 [] [0] [] [(42,.slice sa mm gk),(41,.slice sl (ir L i) cap),(8,.slice sl (ir L i) cap),(1,.slice sa mm gk)] (fun M=>M) 0 42 [false,false] [] [(decide ((↑i:Int)<(↑n:Int)),false)] [] [] fun a1 w1 S1 aG ck cV cW=>?_
  have e:i=n:=by omega
  subst e;exact K C sl cap vs a1 w1 B2 hv aG sD (by omega) (by omega) S1
 |m+1,i,C,sl,cap,vs,a0,w,B2,hi,hv,aP,sD,dH,S0,K=>by
  have g1:decide ((i:Int)<(n:Int))=true:=by simp;omega
  obtain⟨u,rfl⟩:=NV (by omega);have hw:IntKind.wrap .i64 ((i:Int)+1)=((i+1:Nat):Int):=by rw[bI (by omega) (by omega)];rfl
  by_cases hk:L i 0≤2
  ·have gB:decide (L i 0≤2)=true:=by simpa using hk
   have oO:ir L (i+1)=ir L i+1:=if_pos hk;have Oh:pL L (i+1)=upd (pL L i) (ir L i) (L i):=if_pos hk;have hle:=HF L i;refine cJ F hB af aP S0 30 [2,i,0,101,2,i,0,106] [2,2,2,2] [] [(38,.slice (some ⟨B2,0,none⟩) 1 1),(33,.slice sl (ir L i) cap),(9,i6 i),(0,.slice (some u) n c0),(1,.slice sa mm gk),(2,i6 2)] (fun M=>bR (B2) [i6 (L i 0),i6 (L i 1),i6 (L i 2),i6 (L i 3),i6 (L i 4),i6 (L i 5)]::(M)) 1 58 [false,true,true] [] [(decide (L i 0≤2),true),(decide ((↑i:Int)<(↑n:Int)),true)] [((↑i:Int),n),((↑i:Int),n)] [(7,(i,n))] fun a1 w1 S1 aG ck cV cW=>?_
   refine Yd F (fun a wr z=>hB a wr (by omega)) af 33 38 39 22 51 6 48 1 2 0 Vr (by kernel_rfl) (by kernel_rfl) (by decide) rfl rfl rfl rfl (by decide) rfl hv (fun _ _=>rfl) rfl (JE L i) (Nat.le_refl _) (by simp only[maxLen];omega) (by omega) S1 fun g' aj iW bA a2 w2 A eG aW=>?_
   rw[show nL (pc prog 21 58 [false,true,true] [])=pc prog 21 59 [false,true,true] [] by kernel_rfl]
   have h2:Sat Ok w2 (bR B2 (r8 L i)::vR (some ⟨g',0,none⟩) 6 (r8 (pL L (i+1))) (ir L (i+1)) aj 51::sR (some ⟨g',0,none⟩) 6 bA (ir L (i+1)) aj::fR u 6 (r8 L) n false::(C++M)):=by
    rw[oO,Oh];refine A.au.re 1 rfl rfl (r8 (upd (pL L i) (ir L i) (L i))) fun j hj f hf=>?_
    have bP:j<ir L i+1:=hj
    by_cases e:j=ir L i
    ·subst e
     show(r8 (upd (pL L i) (ir L i) (L i)) (ir L i)).getD f undef=(iW (ir L i)).getD f undef
     rw[A.new];simp[upd,r8]
    ·show(r8 (upd (pL L i) (ir L i) (L i)) j).getD f undef=(iW j).getD f undef
     rw[A.old j (by omega)];simp[upd,r8,e]
   have cU:=A.size;have ZB:=A.vc;rw[←oO] at ZB eG;have S2:St Ok w2.heap.size 69 _ _ 0 a2 w2:=⟨eG,Sat.back (A:=[vR (some ⟨g',0,none⟩) 6 (r8 (pL L (i+1))) (ir L (i+1)) aj 51,sR (some ⟨g',0,none⟩) 6 bA (ir L (i+1)) aj,fR u 6 (r8 L) n false]) h2,rfl⟩;have dV:w2.heap.size=w2.heap.size:=rfl;replace aW:=aW.trans aG;generalize hB3:w2.heap.size=B3 at S2 dV cU;refine aD F hB af aW S2 9 [] [] [] [(9,i6 (IntKind.wrap .i64 ((↑i:Int)+1))),(8,.slice (some ⟨g',0,none⟩) (ir L (i+1)) aj),(0,.slice (some u) n c0),(1,.slice sa mm gk),(2,i6 2)] (fun M=>M) 0 68 [false,true,true] [] fun a3 w3 S3 bD eu fS gD=>?_
   rw[hw] at S3;rw[show pc prog 21 68 [false,true,true] []=pc prog 21 28 [false] [] by kernel_rfl];exact Av F hB af hn NV m (i+1) (bR B2 (r8 L i)::C) (some ⟨g',0,none⟩) aj bA a3 w3 B3 (by omega) ZB bD (by omega) (by omega) S3 fun C' fN jP Il a' w' B' z1 z2 z3 z4 z5 z6=>K C' fN jP Il a' w' B' z1 z2 z3 (by omega) z5 z6
  ·have gB:decide (L i 0≤2)=false:=by simpa using hk
   have oO:ir L (i+1)=ir L i:=if_neg hk;have Oh:pL L (i+1)=pL L i:=if_neg hk;refine cJ F hB af aP S0 31 [2,i,0,101] [2,2,0] [] [(9,i6 (IntKind.wrap .i64 ((↑i:Int)+1))),(8,.slice sl (ir L i) cap),(0,.slice (some u) n c0),(1,.slice sa mm gk),(2,i6 2)] (fun M=>M) 0 59 [false,true,false] [] [(decide (L i 0≤2),false),(decide ((↑i:Int)<(↑n:Int)),true)] [((↑i:Int),n)] [(1,(i,n))] fun a1 w1 S1 aG ck cV cW=>?_
   rw[hw] at S1;rw[show pc prog 21 59 [false,true,false] []=pc prog 21 28 [false] [] by kernel_rfl];rw[←oO] at hv S1;rw[←Oh] at S1;exact Av F hB af hn NV m (i+1) C sl cap vs a1 w1 B2 (by omega) hv aG (by omega) (by omega) S1 fun C' fN jP Il a' w' B' z1 z2 z3 z4 z5 z6=>K C' fN jP Il a' w' B' z1 z2 z3 (by omega) z5 z6
end
abbrev Ti:ah:=oR 0 0 [.iface 217 (.agg #[.pointer (some ⟨1,121,none⟩)])] false
abbrev clR(sa:Option Addr)(m:Nat)(g:Nat→Cl):ah:=fR (sa.getD ⟨0,0,none⟩) 2 (fun j=>[i6 (g j).st,.slice (g j).ta (g j).nt (g j).tc]) m false
abbrev Pp(g:Nat→Cl)(j:Nat):ah:=fR ((g j).ta.getD ⟨0,0,none⟩) 3 (fun i=>[i6 ((g j).T i 0),i6 ((g j).T i 1),i6 ((g j).T i 2)]) (g j).nt false
def cM(sa:Option Addr)(m:Nat)(g:Nat→Cl):List ah:=Ti::clR sa m g::(List.range m).map (Pp g)
abbrev xW(s0:Option Addr)(n:Nat)(L:Nat→Nat→Int):ah:=fR (s0.getD ⟨0,0,none⟩) 6 (r8 L) n false
theorem pS{sa:Option Addr}{m:Nat}{g:Nat→Cl}:∀r∈cM sa m g,r.wr=false:=fun r hr=>by
 simp only[cM,List.mem_cons,List.mem_map] at hr;rcases hr with rfl|rfl|⟨j,_,rfl⟩<;>rfl
theorem Ib{sa:Option Addr}{m:Nat}{g:Nat→Cl}:Flat (cM sa m g):=by
 rw[cN];intro r hr;simp only[cM,List.mem_cons,List.mem_map] at hr;rcases hr with rfl|rfl|⟨j,_,rfl⟩<;>rfl
theorem lg{C:List ah}{r:ah}(h:r∈C)(hw:r.wr=false):Has C r:=ni.2 ⟨hw,h⟩
section
variable{Ok:Addr→Bool→Prop}{w:World}
theorem nY{M:List ah}(h:∀r∈M,um Ok w r∧r.wr=false):Sat Ok w M:=by
 refine sat_iff.2 ⟨fun r hr=>(h r hr).1,?_⟩;refine List.pairwise_of_forall_mem_list fun r hr r' lD hw=>?_
 rw[(h r hr).2,(h r' lD).2] at hw;rcases hw with z|z<;>cases z
theorem oZ{r:ah}(hw:r.wr=false)(hr:r.row=none)(hv:∀j,r.has j→w.cell? (r.ad j)=some (r.get j))(ho:∀j,r.has j→Ok (r.ad j) false):um Ok w r:=
 ⟨hv,fun j hj=>⟨ho j hj,fun z=>(by rw[hw] at z;cases z)⟩,fun z=>(by rw[hw] at z;cases z),fun g e n z=>(by rw[hr] at z;cases z)⟩
theorem BE{s0:Option Addr}{n:Nat}{L:Nat→Nat→Int}(h:jR w s0 n L)(ho:∀p:Addr,s0=some p→∀a:Addr,a.block=p.block→Ok a false):um Ok w (xW s0 n L):=by
 refine oZ rfl rfl (fun j hj=>?_) (fun j hj=>?_)
 ·obtain⟨i,f⟩:=j
  obtain⟨h1,h2⟩:=hj;obtain⟨b,o,rfl,hc⟩:=h i h1
  simp only at h1 h2
  have:=hc f h2;simp only[Option.getD_some,Addr.add_lit];rw[show o+i*6+f=o+i*6+f from rfl,this];rcases f with _|_|_|_|_|_|f
  ·rfl
  ·rfl
  ·rfl
  ·rfl
  ·rfl
  ·rfl
  ·omega
 ·obtain⟨i,f⟩:=j
  obtain⟨b,o,rfl,hc⟩:=h i hj.1;exact ho _ rfl _ (by simp only[Option.getD_some,Addr.add_lit])
theorem Ab{sa:Option Addr}{m:Nat}{g:Nat→Cl}(h:jF w sa m g)(he:w.cell? ⟨0,0,none⟩=some (.iface 217 (.agg #[.pointer (some ⟨1,121,none⟩)])))(ho:Qi Ok sa m g)(ho0:Ok ⟨0,0,none⟩ false):Sat Ok w (cM sa m g):=by
 refine nY fun r hr=>?_
 refine⟨?_,pS r hr⟩;simp only[cM,List.mem_cons,List.mem_map] at hr;rcases hr with rfl|rfl|⟨j,hj,rfl⟩
 ·refine oZ rfl rfl (fun j hj=>?_) (fun j hj=>?_)
  ·obtain⟨i,f⟩:=j
   obtain⟨h1,h2⟩:=hj;simp only[List.length_cons,List.length_nil] at h1 h2;have e1:f=0:=by omega
   subst e1;exact he
  ·obtain⟨i,f⟩:=j
   obtain⟨h1,h2⟩:=hj;simp only[List.length_cons,List.length_nil] at h1 h2;have e1:f=0:=by omega
   subst e1;exact ho0
 ·refine oZ rfl rfl (fun j hj=>?_) (fun j hj=>?_)
  ·obtain⟨i,f⟩:=j
   obtain⟨h1,h2⟩:=hj;obtain⟨b,o,rfl,qv,E5,_⟩:=h i h1
   simp only at h1 h2
   simp only[Option.getD_some,Addr.add_lit];rcases f with _|_|f
   ·exact qv
   ·exact E5
   ·omega
  ·obtain⟨i,f⟩:=j
   obtain⟨b,o,rfl,qv,E5,_⟩:=h i hj.1;exact ho.1 _ rfl _ (by simp only[Option.getD_some,Addr.add_lit])
 ·have ZP:j<m:=List.mem_range.1 hj
  obtain⟨b0,o0,_,_,_,ht⟩:=h j ZP;refine oZ rfl rfl (fun k hk=>?_) (fun k hk=>?_)
  ·obtain⟨i,f⟩:=k
   obtain⟨h1,h2⟩:=hk;obtain⟨b,o,e,hc⟩:=ht i h1
   simp only at h1 h2
   have:=hc f h2
   show w.cell? ((((g j).ta.getD ⟨0,0,none⟩).add (i*3)).add f)=some (List.getD [i6 ((g j).T i 0),i6 ((g j).T i 1),i6 ((g j).T i 2)] f undef)
   rw[e];simp only[Option.getD_some,Addr.add_lit];rw[this];rcases f with _|_|_|f
   ·rfl
   ·rfl
   ·rfl
   ·omega
  ·obtain⟨i,f⟩:=k
   obtain⟨b,o,e,hc⟩:=ht i hk.1;have kE:=hk.1
   show Ok ((((g j).ta.getD ⟨0,0,none⟩).add (i*3)).add f) false
   rw[e];exact ho.2 j ZP (by simp only at kE;omega) _ e _ (by simp only[Option.getD_some,Addr.add_lit])
theorem Sat.pRo{s:PS}{C:List ah}(h:Sat Ok w (pM s++C)):Sat Ok w (uz s.ea s.l.ev s.l.el::ot (some ⟨s.k.O,0,none⟩) s.l.ou s.oh s.k.V.nc::C):=by
 have h1:Sat Ok w ([vR s.ea 5 (fun j=>zo (s.l.ev j)) s.l.el s.ec 55,fR ⟨s.k.O,0,none⟩ 4 (fun j=>zF (s.l.ou j,s.oh j)) s.k.V.nc true]++C):=h.sub (List.Sublist.append_right (by
  show List.Sublist [_,_] [_,_,_,_,_,_,_]
  exact .cons _ (.cons _ (.cons _ (.cons_cons _ (.cons _ (.cons _ (.cons_cons _ .slnil))))))) C)
 have h2:=h1.Jx 0 rfl (uz s.ea s.l.ev s.l.el) (fun j hj=>⟨hj,rfl,rfl⟩) (fun z=>by cases z) rfl;exact h2.Jx 1 rfl (ot (some ⟨s.k.O,0,none⟩) s.l.ou s.oh s.k.V.nc) (fun j hj=>⟨hj,rfl,rfl⟩) (fun z=>by cases z) rfl
theorem Sat.mRo{s:RS}{C:List ah}(h:Sat Ok w (mR s++C)):Sat Ok w (uz s.ea s.l.ev s.l.el::ot (some s.oa) s.l.ou s.oh s.V.nc::C):=by
 have h1:Sat Ok w ([fR s.oa 4 (fun j=>zF (s.l.ou j,s.oh j)) s.V.nc true,vR s.ea 5 (fun j=>zo (s.l.ev j)) s.l.el s.ec 55]++C):=h.sub (List.Sublist.append_right (by
  show List.Sublist [_,_] [_,_,_,_,_,_,_,_,_,_,_,_,_]
  exact .cons _ (.cons _ (.cons _ (.cons _ (.cons _ (.cons _ (.cons _ (.cons _ (.cons_cons _ (.cons_cons _ (.cons _ (.cons _ (.cons _ .slnil))))))))))))) C)
 have h2:=h1.Jx 0 rfl (ot (some s.oa) s.l.ou s.oh s.V.nc) (fun j hj=>⟨hj,rfl,rfl⟩) (fun z=>by cases z) rfl;have h3:=h2.Jx 1 rfl (uz s.ea s.l.ev s.l.el) (fun j hj=>⟨hj,rfl,rfl⟩) (fun z=>by cases z) rfl;exact h3.perm (.swap ..)
end
theorem JH(w:World):Old w w:=⟨rfl,rfl,rfl,Nat.le_refl _,fun _ _=>rfl⟩
theorem Gm{a b c:World}(h:Old a b)(k:Old b c):Old a c:=⟨k.1.trans h.1,k.2.1.trans h.2.1,k.2.2.1.trans h.2.2.1,Nat.le_trans h.2.2.2.1 k.2.2.2.1,fun i hi=>(k.2.2.2.2 i (Nat.lt_of_lt_of_le hi h.2.2.2.1)).trans (h.2.2.2.2 i hi)⟩
section
variable{Post:Value→World→Prop}{wI:World}{l:List Nat}{ng:Nat}
theorem Ad{V:Ev0}{L Lf:LS}{m:Nat}(hV:vU V)(hL:Bs V L)(hf:Fin V Lf m none L)(xZ:0<ng){w:World}(hl:∀x∈l,x<w.heap.size){cg cap:Nat}{sL sa:Option Addr}{eH:Nat→Option Addr}{fF:Nat→Nat}{M:List ah}{cf:Frame}{cs:List Frame}(hM:T2 V sa eH fF M)(P2:0<V.nl→∃la,sL=some la∧Has M (fR la 6 (fun i=>wL (V.ly i)) V.nl false))(hS:Sat (cQ wI.heap.size l []) w M)(vD:∀w',Fr (Wr M) w w'→cj prog true (DX (cQ w.heap.size l [])) 16 #[.slice sL V.nl cg,.slice sa V.nc cap] w' fun v w2=>v=.tuple #[i6 0,i6 0]∧Kp [] w' w2)(K:∀(lQ A:Nat)(o:Nat)(ea:Option Addr)(ec:Nat)(oh:Nat→Value)(C:List ah)(w':World),0<lQ→w.heap.size≤A→A<w'.heap.size→(0<V.nc→w.heap.size≤o)→Old w w'→Old wI w'→(0<Lf.el→∃a,ea=some a)→Sat (cQ wI.heap.size (A::l) []) w' (uz ea Lf.ev Lf.el::ot (some ⟨o,0,none⟩) Lf.ou oh V.nc::C)→(∀r,Has M r→Has C r)→(∀j,j<V.nc→gQ C (oh j) (Lf.ou j).b.ch)→
 qa prog Post (Old wI) (jQ (A::l)) lQ (G (cf.finish (.tuple #[.agg #[.slice (some ⟨o,0,none⟩) V.nc V.nc,.slice ea Lf.el ec],i6 0,i6 0])) cs) w'):
 qa prog Post (Old wI) (jQ l) ng (G (Frame.enter prog 24 #[.slice sL V.nl cg,.slice sa V.nc cap] .normal) (cf::cs)) w:=by
 refine At.assume ig fun hO=>?_
 refine At.keep (K':=Old w) (fun d=>JH w) ?_;have cU:wI.heap.size≤w.heap.size:=hO.2.2.2.1;refine QE hV hL hf xZ hl hM P2 (hS.Px (fun r hr j hj h=>⟨h.1,fun z=>by cases z⟩) (fun r hr hw=>by rw[hM.ro r hr] at hw;cases hw)) vD fun lQ A s C w' k1 k2 k3 k4 k5 k6 k7 k8 k9 k10=>?_
 subst k4;subst k5;refine At.keep (fun d=>Gm hO k6) ?_;have h7:Sat (cQ wI.heap.size (A::l) []) w' (pM s++C):=k7.Px (fun r hr j hj h=>⟨h.1,fun z=>by cases z⟩) (fun r hr hw j hj h=>⟨h.1,fun z=>⟨Nat.le_trans cU (h.2 z).1,(h.2 z).2⟩⟩)
 exact K lQ A s.k.O s.ea s.ec s.oh C w' k1 k2 k3 (fun z=>(((k7.ok 6 (fR ⟨s.k.O,0,none⟩ 4 (fun j=>zF (s.l.ou j,s.oh j)) s.k.V.nc true) rfl (0,0) ⟨z,(by decide:0<4)⟩).2 rfl).1.2 rfl).1) k6 (Gm hO k6) (fun z=>by
  rcases k8.jr.row with ⟨_,z1,_⟩|⟨g,z1,_⟩
  ·omega
  ·exact⟨_,z1⟩) h7.pRo k9 k10
end
theorem iM{N0 N:Nat}{l:List Nat}(hl:∀A∈l,A<N)(hN:N0≤N){a:Addr}(ha:N≤a.block)(wr:Bool):cQ N0 l [] a wr:=
 ⟨fun⟨A,hA,z⟩=>by have:=hl A hA;rcases z with z|z<;>(simp at z;subst z;dsimp only at ha;omega),fun _=>⟨by omega,fun⟨p,hp,z⟩=>by cases hp⟩⟩
theorem Jc(V:Ev0)(t k:Nat)(ob:Option Bk)(L:LS)(j:Nat):(L.step V t k ob).1.ou j=L.ou j∨∃b,ob=some b∧(L.step V t k ob).1.ou j=⟨L.now,b⟩:=by
 cases ob with
 |none=>
  left
  simp only[LS.step]
  split
  ·split<;>rfl
  ·split<;>rfl
 |some b=>
  simp only[LS.step]
  split
  ·simp only[LS.end_,upd]
   split
   ·exact .inr ⟨b,rfl,rfl⟩
   ·exact .inl rfl
  ·left
   split
   ·split
    ·rfl
    ·split
     ·rfl
     ·split<;>rfl
   ·split<;>rfl
theorem qB{V:Ev0}{Lf:LS}:∀(m:Nat)(cur:Option (Nat×Nat×Option Bk))(L:LS),Fin V Lf m cur L→(∀j,(L.ou j).b.ch.length<1000000)→∀j,(Lf.ou j).b.ch.length<1000000
 |0,_,_,h,_=>h.elim
 |m+1,some (t,k,ob),L,h,hL=>by
  obtain⟨h1,h2,h3,h4⟩:=h
  have hn:∀j,((L.step V t k ob).1.ou j).b.ch.length<1000000:=fun j=>by
   rcases Jc V t k ob L j with z|⟨b,z1,z2⟩
   ·rw[z];exact hL j
   ·rw[z2];exact(h3 b z1).1.1
  cases hs:L.step V t k ob with
  |mk L' o=>
   rw[hs] at h4 hn;cases o with
   |none=>exact qB m none L' h4 hn
   |some p=>exact qB m (some (t,p.1,p.2)) L' h4 hn
 |m+1,none,L,h,hL=>by
  obtain⟨h1,h2⟩:=h
  split at h2
  ·rw[←h2];exact hL
  ·obtain⟨t,h3,h4,h5⟩:=h2
   rcases h5 with ⟨_,h5⟩|⟨_,w,_,_,_,_,_,h5⟩
   ·exact qB m _ _ h5 hL
   ·rcases h5 with ⟨_,y,ch,_,h5⟩|⟨k,_,_,_,h5⟩
    ·exact qB m _ _ h5 hL
    ·exact qB m _ _ h5 hL
theorem Jd(V:Ev0)(t k:Nat)(ob:Option Bk)(L:LS):(L.step V t k ob).1.el≤L.el+3:=by
 cases ob with
 |none=>
  simp only[LS.step]
  split
  ·split<;>simp[LS.say,LS.wait,LS.c8,LS.put]
  ·split<;>simp
 |some b=>
  simp only[LS.step]
  split
  ·simp[LS.end_]
  ·split
   ·split
    ·simp
    ·split
     ·simp[LS.say]
     ·split<;>simp[LS.say,LS.wait,LS.c8,LS.put]
   ·split<;>simp[LS.say]
theorem qC{V:Ev0}{Lf:LS}:∀(m:Nat)(cur:Option (Nat×Nat×Option Bk))(L:LS),Fin V Lf m cur L→L.el<2000000→Lf.el<2000000
 |0,_,_,h,_=>h.elim
 |m+1,some (t,k,ob),L,h,hL=>by
  obtain⟨h1,h2,h3,h4⟩:=h;have hn:(L.step V t k ob).1.el<2000000:=by have:=Jd V t k ob L;have:=h1.el;omega
  cases hs:L.step V t k ob with
  |mk L' o=>
   rw[hs] at h4 hn;cases o with
   |none=>exact qC m none L' h4 hn
   |some p=>exact qC m (some (t,p.1,p.2)) L' h4 hn
 |m+1,none,L,h,hL=>by
  obtain⟨h1,h2⟩:=h
  split at h2
  ·rw[←h2];exact hL
  ·obtain⟨t,h3,h4,h5⟩:=h2
   have kO:L.el<1000000:=h4.el;rcases h5 with ⟨_,h5⟩|⟨_,w,_,_,_,_,_,h5⟩
   ·exact qC m _ _ h5 hL
   ·rcases h5 with ⟨_,y,ch,_,h5⟩|⟨k,_,_,_,h5⟩
    ·exact qC m _ _ h5 (by show L.el+1<2000000;omega)
    ·exact qC m _ _ h5 hL
theorem BZ{Ok:Addr→Bool→Prop}{w:World}{s0:Option Addr}{n:Nat}{L:Nat→Nat→Int}(h:um Ok w (xW s0 n L))(hs:0<n→∃b o,s0=some ⟨b,o,none⟩):jR w s0 n L:=fun i hi=>by
 obtain⟨b,o,rfl⟩:=hs (by omega);refine⟨b,o,rfl,fun j hj=>?_⟩;have:=h.val (i,j) ⟨hi,hj⟩;simp only[Option.getD_some,Addr.add_lit] at this;rw[this];rcases j with _|_|_|_|_|_|j
 ·rfl
 ·rfl
 ·rfl
 ·rfl
 ·rfl
 ·rfl
 ·omega
theorem HH{M:List ah}{w w':World}(h:Fr (Wr M) w w')(hr:∀r∈M,r.wr=false):Fr (fun _=>False) w w':=h.zT fun a z=>by
 obtain⟨i,r,j,h1,h2,_⟩:=z;rw[hr r (ga h1)] at h2;cases h2
theorem Bl{w w':World}{sa:Option Addr}{m:Nat}{g:Nat→Cl}(h:jF w sa m g)(hf:Fr (fun _=>False) w w'):jF w' sa m g:=fun i hi=>by
 have tr:∀a v,w.cell? a=some v→w'.cell? a=some v:=fun a v hv=>(hf.cell a (aq hv) (fun z=>z)).1.trans hv
 obtain⟨b,o,e,h1,h2,h3⟩:=h i hi
 exact⟨b,o,e,tr _ _ h1,tr _ _ h2,fun j hj=>by
  obtain⟨b,o,e,hc⟩:=h3 j hj;exact⟨b,o,e,fun k hk=>tr _ _ (hc k hk)⟩⟩
theorem TC{n:Nat}{L:Nat→Nat→Int}{m:Nat}{g:Nat→Cl}(h:iK n L m g≠(0,0)):(iK n L m g).1≠0:=by
 unfold iK at h ⊢
 split
 ·show(1:Int)≠0;decide
 split
 ·show(2:Int)≠0;decide
 split
 ·show(3:Int)≠0;decide
 split
 ·show(4:Int)≠0;decide
 ·rename_i h1 h2 h3 h4
  rw[if_neg h1,if_neg h2,if_neg h3,if_neg h4] at h;exact absurd rfl h
section
variable{B:Nat}{Ok:Addr→Bool→Prop}{Ψ:Goroutine→World→Prop}
theorem FF(F:aC prog true (DX Ok) Ψ)(hB:HB B Ok){bb:Frame}(af:bb.kind=.normal)(aJ:bb.fn=21){cf:Frame}{cs:List Frame}{sl sa:Option Addr}{n cap m gk:Nat}{L:Nat→Nat→Int}{g:Nat→Cl}{M:List ah}{a0:Act}{w:World}{B2:Nat}(aP:a0.defers=[])(hle:B≤B2)(dH:w.heap.size=B2)(h2:∀i,i<n→L i 0≤2)(vD:iK n L m g≠(0,0))(hl:0<n→∃a,sl=some a∧Has M (fR a 6 (r8 L) n false))(hc:0<m→∃a,sa=some a∧Has M (fR a 2 (fun j=>[i6 (g j).st,.slice (g j).ta (g j).nt (g j).tc]) m false))(hg:∀j,j<m→0<(g j).nt→∃a,(g j).ta=some a∧Has M (fR a 3 (fun i=>[i6 ((g j).T i 0),i6 ((g j).T i 1),i6 ((g j).T i 2)]) (g j).nt false))(Kg:∀w',Fr (Wr M) w w'→cj prog true (DX Ok) 16 #[.slice sl n cap,.slice sa m gk] w' fun v w2=>v=.tuple #[i6 (iK n L m g).1,i6 (iK n L m g).2]∧Kp [] w' w2)(S0:St Ok B2 69 [(42,.slice sa m gk),(41,.slice sl n cap),(8,.slice sl n cap),(1,.slice sa m gk)] M 0 a0 w)(K:∀w',w.heap.size≤w'.heap.size→Ψ (G (cf.finish (.bool true)) cs) w'):Ψ (G (bb.at a0 (pc prog 21 42 [false,false] [])) (cf::cs)) w:=by
 have uX:=TC vD;refine fT F af aP S0 43 24 #[.slice sl n cap,.slice sa m gk] fun cf0 On=>?_
 refine QG F hB uX S0.au (by omega) Kg fun w1 h1 cV=>On _ _ _ h1 fun a1 B1 S1 aG ck=>?_
 refine aD F hB af aG S1 13 [0,0,0,2] [] [] [(49,.slice sa m gk),(48,.slice sl n cap),(12,i6 (iK n L m g).snd),(11,i6 (iK n L m g).fst),(10,ptr B1)] (fun M=>bR (B1) [.slice none 0 0,.slice none 0 0]::(M)) 1 56 [false,false] [] fun a2 w2 S2 aW dV kX A8=>?_
 refine fT F af aW S2 50 31 #[.slice sl n cap,.slice sa m gk] fun zN AZ=>?_
 refine Na F hB uX S2.au (by omega) (fun eN dY w' M' yd xm zK KK=>F9 F hB h2 (fun z=>by obtain⟨a,z1,z2⟩:=hl z;exact⟨a,z1,yd _ z2.cons⟩) (fun z=>by obtain⟨a,z1,z2⟩:=hc z;exact⟨a,z1,yd _ z2.cons⟩) (fun j hj z=>by obtain⟨a,z1,z2⟩:=hg j hj z;exact⟨a,z1,yd _ z2.cons⟩) xm zK KK) fun w3 h3 fS=>AZ _ _ _ h3 fun a3 B3 S3 bD eu=>?_
 refine aD F hB af bD S3 13 [0,0,0,2,1,0,0,2,0,0,0,2] [] [] [(55,.agg #[.slice none 0 0,.slice none 0 0]),(54,.agg #[.slice none 0 0,.slice none 0 0]),(15,i6 (iK n L m g).snd),(14,i6 (iK n L m g).fst),(12,i6 (iK n L m g).snd),(11,i6 (iK n L m g).fst)] (fun M=>bR (B3) [.slice none 0 0,.slice none 0 0]::(M)) 1 70 [false,false] [] fun a4 w4 S4 fC oJ Ay U4=>?_
 refine fT F af fC S4 56 32 #[.agg #[.slice none 0 0,.slice none 0 0],.agg #[.slice none 0 0,.slice none 0 0]] fun cf4 Om=>?_
 refine FW (n:=0) (el:=0) (o1:=none) (o2:=none) (e1:=none) (e2:=none) (ou:=fun _=>⟨0,⟨0,0,[]⟩⟩) (tD:=fun _=>.slice none 0 0) (rH:=fun _=>.slice none 0 0) (ev:=fun _=>⟨0,0,0,0,0⟩) F hB (by omega) (by omega) (fun z=>by omega) (fun z=>by omega) (fun z=>by omega) (fun z=>by omega) (fun j hj=>by omega) (by omega) (Sat.iV (Sat.iV (Sat.iV (Sat.iV S4.au rfl rfl) rfl rfl) rfl rfl) rfl rfl) fun w5 h5 kC=>Om _ _ _ h5 fun a5 B5 S5 dU jT=>?_
 have t1:((iK n L m g).1==(iK n L m g).1)=true:=by simp
 have t2:((iK n L m g).2==(iK n L m g).2)=true:=by simp
 refine cJ F hB af dU S5 28 [] [3,3,3,3,2,3,3] [] [(6,.bool ((iK n L m g).snd==(iK n L m g).snd))] (fun M=>M) 0 89 [false,false] [] [((iK n L m g).fst==(iK n L m g).fst,true)] [] [] fun a6 w6 S6 kF xX GO Mk=>?_
 refine dA F S6 af aJ kF [] (.bool ((iK n L m g).snd==(iK n L m g).snd)) ?_;rw[t2];exact K w6 (by omega)
theorem FE(F:aC prog true (DX Ok) Ψ)(hB:HB B Ok){bb:Frame}(af:bb.kind=.normal)(aJ:bb.fn=21){cf:Frame}{cs:List Frame}{o1 o2:Addr}{e1 e2:Option Addr}{m el k1 k2 q:Nat}{ou:Nat→Qj}{tD rH:Nat→Value}{ev:Nat→Pd}{M:List ah}{a0:Act}{w:World}{B2:Nat}(hm9:m≤9)(kO:el<1000000000)(aP:a0.defers=[])(hle:B≤B2)(dH:w.heap.size=B2)(h1:0<el→∃a,e1=some a)(h2:0<el→∃a,e2=some a)(p1:Has M (uz e1 ev el))(p2:Has M (uz e2 ev el))(p3:Has M (ot (some o1) ou tD m))(p4:Has M (ot (some o2) ou rH m))(eC:∀j,j<m→(ou j).b.ch.length<1000000∧gQ M (tD j) (ou j).b.ch∧gQ M (rH j) (ou j).b.ch)(S0:St Ok B2 69 [(50,.tuple #[.agg #[.slice (some o2) m m,.slice e2 el k2],i6 0,i6 0]),(12,i6 0),(11,i6 0),(10,ptr q)] (oR q 0 [.slice (some o1) m m,.slice e1 el k1] false::M) 0 a0 w)(K:∀w',w.heap.size≤w'.heap.size→Ψ (G (cf.finish (.bool true)) cs) w'):Ψ (G (bb.at a0 (pc prog 21 57 [false,false] [])) (cf::cs)) w:=by
 refine aD F hB af aP S0 13 [0,0,0,2,1,0,0,2,0,0,0,2] [] [] [(55,.agg #[.slice (some o2) m m,.slice e2 el k2]),(54,.agg #[.slice (some o1) m m,.slice e1 el k1]),(15,i6 0),(14,i6 0),(12,i6 0),(11,i6 0)] (fun M=>bR (B2) [.slice (some o2) m m,.slice e2 el k2]::(M)) 1 70 [false,false] [] fun a1 w1 S1 aG ck cV cW=>?_
 refine fT F af aG S1 56 32 #[.agg #[.slice (some o1) m m,.slice e1 el k1],.agg #[.slice (some o2) m m,.slice e2 el k2]] fun kP bK=>?_
 refine FW (n:=m) (el:=el) (o1:=some o1) (o2:=some o2) (e1:=e1) (e2:=e2) (ou:=ou) (tD:=tD) (rH:=rH) (ev:=ev) F hB kO hm9 h1 h2 (fun _=>⟨_,rfl⟩) (fun _=>⟨_,rfl⟩) (fun j hj=>⟨(eC j hj).1,(eC j hj).2.1.app [_,_],(eC j hj).2.2.app [_,_]⟩) (by omega) (Sat.get (Sat.get (Sat.get (Sat.get S1.au p4.cons.cons) p3.cons.cons.cons) p2.cons.cons.cons.cons) p1.cons.cons.cons.cons.cons) fun w2 h3 kX=>bK _ _ _ (h3) fun a2 B3 S2 aW dV=>?_
 refine aD F hB af aW S2 28 [] [3,3,3,3,3,3,3] [] [(6,.bool true)] (fun M=>M) 0 89 [false,false] [] fun a3 w3 S3 bD eu fS gD=>?_
 refine dA F S3 af aJ bD [] (.bool true) ?_;exact K w3 (by omega)
end
section
variable{Post:Value→World→Prop}{wI:World}{l:List Nat}{ng:Nat}
theorem DN(xZ:0<ng){bb:Frame}(af:bb.kind=.normal)(aJ:bb.fn=21){cf:Frame}{cs:List Frame}{sl sa:Option Addr}{n cap m gk:Nat}{L:Nat→Nat→Int}{g:Nat→Cl}{M:List ah}{a0:Act}{w:World}(hl:∀x∈l,x<w.heap.size)(hO:Old wI w)(aP:a0.defers=[])(h2:∀i,i<n→L i 0≤2)(vD:iK n L m g=(0,0))(ny:∀r∈M,r.wr=false)(zI:Flat M)(W9:Has M Ti)(WO:0<n→∃a,sl=some a∧Has M (fR a 6 (r8 L) n false))(hc:0<m→∃a,sa=some a∧Has M (fR a 2 (fun j=>[i6 (g j).st,.slice (g j).ta (g j).nt (g j).tc]) m false))(hg:∀j,j<m→0<(g j).nt→∃a,(g j).ta=some a∧Has M (fR a 3 (fun i=>[i6 ((g j).T i 0),i6 ((g j).T i 1),i6 ((g j).T i 2)]) (g j).nt false))(Kg:∀w',Fr (Wr M) w w'→cj prog true (DX (cQ w.heap.size l [])) 16 #[.slice sl n cap,.slice sa m gk] w' fun v w2=>v=.tuple #[i6 0,i6 0]∧Kp [] w' w2)(hA:aO [(42,.slice sa m gk),(41,.slice sl n cap),(8,.slice sl n cap),(1,.slice sa m gk)] 69 a0)(hS:Sat (cQ wI.heap.size l []) w M)(K:∀l' lQ w',0<lQ→(∀x∈l',x<w'.heap.size)→Old wI w'→qa prog Post (Old wI) (jQ l') lQ (G (cf.finish (.bool true)) cs) w'):qa prog Post (Old wI) (jQ l) ng (G (bb.at a0 (pc prog 21 42 [false,false] [])) (cf::cs)) w:=by
 have F:=rP (P:=prog) (Post:=Post) (wI:=wI) (l:=l) ng;have hV:=zU vD h2;have rj:=vV (qF n L m g) m;obtain⟨mf,Lf,hf⟩:=Tc hV (L:=mK (qF n L m g) m) rj.1 rj.2.1 (fun i hi=>by rw[(rj.2.2.2.2.2.2.2 i hi).1];exact⟨rfl,rfl,rfl,rfl⟩) rj.2.2.2.2.2.1 rj.2.2.2.2.1 rj.2.2.2.1 rj.2.2.1 (fun t ht=>by rw[(rj.2.2.2.2.2.2.2 t ht).2];exact⟨rfl,rfl,rfl,rfl⟩);have hL:Bs (qF n L m g) (mK (qF n L m g) m):=⟨rj.1,rj.2.1,fun i hi=>by rw[(rj.2.2.2.2.2.2.2 i hi).1];exact⟨rfl,rfl,rfl,rfl⟩,rj.2.2.2.2.2.1,rj.2.2.2.2.2.2.1,rj.2.2.2.2.1⟩;have hM:T2 (qF n L m g) sa (fun j=>(g j).ta) (fun j=>(g j).tc) M:=⟨ny,zI,hc,hg,W9⟩;have S0:St (cQ wI.heap.size l []) w.heap.size 69 _ M 0 a0 w:=⟨hA,hS,rfl⟩;refine EJ F af 43 24 #[.slice sl n cap,.slice sa m gk] (by kernel_rfl) (by kernel_rfl) (by decide) S0 fun cR El=>?_
 refine Ad hV hL hf xZ hl (sL:=sl) (sa:=sa) (cg:=cap) (cap:=gk) hM WO hS Kg fun lQ A o ea ec oh C w1 k1 k2 k3 _ k4 k5 k6 k7 k8 k9=>El _ _ _ fun a1 dw aG=>?_
 clear F;have F:=rP (P:=prog) (Post:=Post) (wI:=wI) (l:=A::l) lQ;have tJ:wI.heap.size≤w1.heap.size:=k5.2.2.2.1;have Wc:w.heap.size≤w1.heap.size:=k4.2.2.2.1
 have hB:∀(a:Addr)(wr:Bool),w1.heap.size≤a.block→cQ wI.heap.size (A::l) [] a wr:=fun a wr z=>iM (N:=w1.heap.size) (fun x hx=>by
  rcases List.mem_cons.1 hx with rfl|hx
  ·exact k3
  ·have:=hl x hx;omega) tJ z wr
 have kO:=qC mf none _ hf (by rw[rj.2.2.2.2.1];decide);have RO:=qB mf none _ hf (fun j=>by rw[rj.2.2.2.2.2.2.1];decide);have S1:St (cQ wI.heap.size (A::l) []) w1.heap.size 69 _ _ 0 a1 w1:=⟨dw,k7,rfl⟩;have ck:w1.heap.size=w1.heap.size:=rfl;replace aG:=aG.trans aP;have nlV:(qF n L m g).nl=n:=rfl;have ncV:(qF n L m g).nc=m:=rfl;generalize hB1:w1.heap.size=B1 at S1 ck hB tJ Wc;refine aD F hB af aG S1 13 [0,0,0,2] [] [] [(49,.slice sa m gk),(48,.slice sl n cap),(12,i6 0),(11,i6 0),(10,ptr B1)] (fun M=>bR (B1) [.slice (some ⟨o,0,none⟩) m m,.slice ea Lf.el ec]::(M)) 1 56 [false,false] [] fun a2 w2 S2 aW dV kX A8=>?_
 replace S2:St (cQ wI.heap.size (A::l) []) B1 69 _ (oR B1 0 [.slice (some ⟨o,0,none⟩) m m,.slice ea Lf.el ec] false::uz ea Lf.ev Lf.el::ot (some ⟨o,0,none⟩) Lf.ou oh m::C) 1 a2 w2:=⟨S2.env,S2.au.fix,S2.sz⟩;have up:∀r,Has M r→Has (oR B1 0 [.slice (some ⟨o,0,none⟩) m m,.slice ea Lf.el ec] false::uz ea Lf.ev Lf.el::ot (some ⟨o,0,none⟩) Lf.ou oh m::C) r:=fun r hr=>(k8 r hr).cons.cons.cons
 refine fT F af aW S2 50 31 #[.slice sl n cap,.slice sa m gk] fun zN AZ=>?_
 refine QC (V:=qF n L m g) (Lf:=Lf) (sL:=sl) (sa:=sa) (cg:=cap) (cap:=gk) (eH:=fun j=>(g j).ta) (fF:=fun j=>(g j).tc) (m:=mf) (M:=oR B1 0 [.slice (some ⟨o,0,none⟩) m m,.slice ea Lf.el ec] false::uz ea Lf.ev Lf.el::ot (some ⟨o,0,none⟩) Lf.ou oh m::C) F hB hV hf (fun z=>by obtain⟨a,z1,z2⟩:=hc z;exact⟨a,z1,up _ z2⟩) (fun c PT z=>by obtain⟨a,z1,z2⟩:=hg c PT z;exact⟨a,z1,up _ z2⟩) (fun z=>by obtain⟨a,z1,z2⟩:=WO z;exact⟨a,z1,up _ z2⟩) S2.au (by omega) (fun eN dY w' M' yd xm zK KK=>by
  have KK':∀w2,Sat (cQ wI.heap.size (A::l) []) w2 M'→w'.heap.size≤w2.heap.size→qa prog Post (Old wI) (jQ (A::l)) lQ (G (eN.finish (.tuple #[i6 (iK n L m g).1,i6 (iK n L m g).2])) dY) w2:=by rw[vD];exact KK
  exact F9 F hB h2 (fun z=>by obtain⟨a,z1,z2⟩:=WO z;exact⟨a,z1,yd _ (up _ z2)⟩) (fun z=>by obtain⟨a,z1,z2⟩:=hc z;exact⟨a,z1,yd _ (up _ z2)⟩) (fun j hj z=>by obtain⟨a,z1,z2⟩:=hg j hj z;exact⟨a,z1,yd _ (up _ z2)⟩) xm zK KK') fun s C2 w3 g1 g2 g3 g4 I g6=>AZ _ _ _ I.au.mRo fun a3 B3 S3 bD eu=>?_
 subst g1;have q1:Has C2 (oR B1 0 [.slice (some ⟨o,0,none⟩) m m,.slice ea s.l.el ec] false):=g4 _ (lg (List.mem_cons_self ..) rfl);have q2:Has C2 (uz ea s.l.ev s.l.el):=g4 _ (lg (List.mem_cons_of_mem _ (List.mem_cons_self ..)) rfl);have q3:Has C2 (ot (some ⟨o,0,none⟩) s.l.ou oh m):=g4 _ (lg (List.mem_cons_of_mem _ (List.mem_cons_of_mem _ (List.mem_cons_self ..))) rfl)
 have q4:∀j,j<m→gQ C2 (oh j) (s.l.ou j).b.ch:=fun j hj=>by
  rcases k9 j hj with z|⟨ca,aj,i,z1,z2⟩
  ·exact .inl z
  ·obtain⟨_,i',dJ⟩:=g4 (iL ca (s.l.ou j).b.ch) (Has.cons (Has.cons (Has.cons (show Has C (iL ca (s.l.ou j).b.ch) from⟨rfl,i,z2⟩))))
   exact .inr ⟨ca,aj,i',z1,dJ⟩
 have q5:∀j,j<m→gQ C2 (s.oh j) (s.l.ou j).b.ch:=fun j hj=>by
  rcases I.oh j hj with z|⟨ca,aj,i,z1,z2,_⟩
  ·exact .inl z
  ·exact .inr ⟨ca,aj,i,z1,z2⟩
 have hsn:s.V.nc=m:=by rw[g2];rfl
 replace S3:=S3.get (q1.cons.cons);rw[hsn] at S3;have Oa:B1≤B3:=by omega
 refine FE F hB af aJ hV.nc (by omega) bD Oa eu k6 (fun z=>?_) q2.cons.cons (lg (List.mem_cons_self ..) rfl) q3.cons.cons (lg (List.mem_cons_of_mem _ (List.mem_cons_self ..)) rfl) (fun j hj=>⟨RO j,(q4 j hj).app [_,_],(q5 j hj).app [_,_]⟩) (S3.fZ _ rfl) fun w4 oJ=>At.assume ig fun hO4=>K (A::l) lQ w4 k1 (fun x hx=>by
  rcases List.mem_cons.1 hx with rfl|hx
  ·omega
  ·have:=hl x hx;omega) hO4
 rcases I.rv.e.row with ⟨_,z1,_⟩|⟨g',z1,_⟩
 ·omega
 ·exact⟨_,z1⟩
end
structure ER(wI:World)(s0:Option Addr)(n:Nat)(L:Nat→Nat→Int)(sa:Option Addr)(m:Nat)(g:Nat→Cl):Prop where
 hL:jR wI s0 n L
 bL:∀p:Addr,s0=some p→p.block<wI.heap.size
 hn:n<2932031007403
 hC:jF wI sa m g
 bC:∀p:Addr,sa=some p→p.block<wI.heap.size
 bT:∀i,i<m→0<(g i).nt→∀p:Addr,(g i).ta=some p→p.block<wI.heap.size
 i0:0<wI.heap.size
 hg:wI.cell? ⟨0,0,none⟩=some (.iface 217 (.agg #[.pointer (some ⟨1,121,none⟩)]))
theorem CR{w w':World}{sa:Option Addr}{m:Nat}{g:Nat→Cl}(h:jF w sa m g)(hf:Old w w'):jF w' sa m g:=fun i hi=>by
 obtain⟨b,o,e,h1,h2,h3⟩:=h i hi
 exact⟨b,o,e,hf.cell _ _ h1,hf.cell _ _ h2,fun j hj=>by
  obtain⟨b,o,e,hc⟩:=h3 j hj;exact⟨b,o,e,fun k hk=>hf.cell _ _ (hc k hk)⟩⟩
theorem JQ{w w':World}{sa:Option Addr}{n:Nat}{L:Nat→Nat→Int}(h:jR w sa n L)(hf:Old w w'):jR w' sa n L:=fun i hi=>by
 obtain⟨b,o,e,hc⟩:=h i hi;exact⟨b,o,e,fun k hk=>hf.cell _ _ (hc k hk)⟩
theorem kr{N0:Nat}{l:List Nat}{a:Addr}(h:a.block∉l):cQ N0 l [] a false:=
 ⟨fun⟨A,hA,z⟩=>h (by rcases z with z|z<;>(simp at z;subst z;exact hA)),fun z=>by cases z⟩
section
variable{Post:Value→World→Prop}{wI:World}{l:List Nat}{ng:Nat}{s0 sa:Option Addr}{n m:Nat}{L:Nat→Nat→Int}{g:Nat→Cl}
theorem ER.rd(h:ER wI s0 n L sa m g)(hl:∀B∈l,wI.heap.size≤B){N0:Nat}:Qi (cQ N0 l []) sa m g:=⟨fun p hp a ha=>kr fun z=>by have:=h.bC p hp;have:=hl _ z;omega,fun i hi h0 p hp a ha=>kr fun z=>by have:=h.bT i hi h0 p hp;have:=hl _ z;omega⟩
theorem MT(H:ER wI s0 n L sa m g)(xZ:0<ng){bb:Frame}(af:bb.kind=.normal)(aJ:bb.fn=21){cf:Frame}{cs:List Frame}{c0 gk:Nat}{a0:Act}{w:World}(hl:∀x∈l,wI.heap.size≤x∧x<w.heap.size)(hO:Old wI w)(aP:a0.defers=[])(hA:aO [(17,.bool true),(0,.slice s0 n c0),(1,.slice sa m gk),(2,i6 2)] 69 a0)(K:∀l' lQ w',0<lQ→(∀x∈l',x<w'.heap.size)→Old wI w'→qa prog Post (Old wI) (jQ l') lQ (G (cf.finish (.bool true)) cs) w'):qa prog Post (Old wI) (jQ l) ng (G (bb.at a0 (pc prog 21 7 [] [])) (cf::cs)) w:=by
 have F:=rP (P:=prog) (Post:=Post) (wI:=wI) (l:=l) ng;have tJ:wI.heap.size≤w.heap.size:=hO.2.2.2.1;have UJ:∀x∈l,wI.heap.size≤x:=fun x hx=>(hl x hx).1
 have hB:∀(a:Addr)(wr:Bool),w.heap.size≤a.block→cQ wI.heap.size l [] a wr:=fun a wr z=>iM (fun x hx=>(hl x hx).2) tJ z wr
 have hMc:Sat (cQ wI.heap.size l []) w (cM sa m g):=Ab (CR H.hC hO) (hO.cell _ _ H.hg) (H.rd UJ) (kr fun z=>by have h:wI.heap.size≤0:=UJ _ z;have:=H.i0;omega);have hMl:um (cQ wI.heap.size l []) w (xW s0 n L):=BE (JQ H.hL hO) fun p hp a ha=>kr fun z=>by have:=H.bL p hp;have:=UJ _ z;omega
 have hM:Sat (cQ wI.heap.size l []) w (xW s0 n L::cM sa m g):=nY fun r hr=>by
  rcases List.mem_cons.1 hr with rfl|hr
  ·exact⟨hMl,rfl⟩
  ·exact⟨hMc.mem hr,pS r hr⟩
 have S0:St (cQ wI.heap.size l []) w.heap.size 69 [(17,.bool true),(0,.slice s0 n c0),(1,.slice sa m gk),(2,i6 2)] (xW s0 n L::cM sa m g) 0 a0 w:=⟨hA,hM,rfl⟩;have dH:w.heap.size=w.heap.size:=rfl;generalize UX:w.heap.size=B0 at S0 dH hB tJ hl;have hn:=H.hn;generalize PT:cM sa m g=CM at S0;refine aD F hB af aP S0 21 [] [1] [] [(9,i6 0),(8,.slice none 0 0),(0,.slice s0 n c0),(1,.slice sa m gk),(2,i6 2)] (fun M=>M) 0 28 [false] [] fun a1 w1 S1 aG ck cV cW=>?_
 subst PT;have NV:0<n→∃a,s0=some a:=fun z=>by obtain⟨b,o,e,_⟩:=H.hL 0 z;exact⟨_,e⟩
 refine Av F hB af hn NV n 0 [] none 0 (fun _=>[]) a1 w1 B0 (Nat.zero_add _) sM aG (Nat.le_refl _) (by omega) ⟨S1.env,Sat.iV (Sat.iV S1.au rfl rfl) rfl rfl,S1.sz⟩ fun C sl cap vs a2 w2 B2 hv aW fK kX dV S2=>?_
 refine At.assume ig fun Xv=>?_
 have aae:wI.heap.size≤w2.heap.size:=Xv.2.2.2.1
 have h2:Sat (cQ wI.heap.size l []) w2 (xW sl (ir L n) (pL L n)::cM sa m g):=by
  have h3:=S2.au.sub (M':=vR sl 6 (r8 (pL L n)) (ir L n) cap 51::cM sa m g) (.cons_cons _ (.cons _ (.cons _ (List.sublist_append_right C _))));exact h3.Jx 0 rfl (xW sl (ir L n) (pL L n)) (fun j hj=>⟨hj,rfl,rfl⟩) (fun z=>by cases z) rfl
 have ny:∀r∈xW sl (ir L n) (pL L n)::cM sa m g,r.wr=false:=fun r hr=>by
  rcases List.mem_cons.1 hr with rfl|hr
  ·rfl
  ·exact pS r hr
 have Ef:0<ir L n→∃b o,sl=some ⟨b,o,none⟩:=fun z=>by
  rcases hv.row with ⟨_,z1,_⟩|⟨g',z1,_⟩
  ·omega
  ·exact⟨g',0,z1⟩
 have Kg:∀(N:Nat),N=wI.heap.size∨N=w2.heap.size→∀w',Fr (Wr (xW sl (ir L n) (pL L n)::cM sa m g)) w2 w'→cj prog true (DX (cQ N l [])) 16 #[.slice sl (ir L n) cap,.slice sa m gk] w' fun v w2=>v=.tuple #[i6 (iK (ir L n) (pL L n) m g).1,i6 (iK (ir L n) (pL L n) m g).2]∧Kp [] w' w2:=fun N hN w' hf=>by
  have nP:=HH hf ny;have pI:=BZ ((h2.keep nP).mem (List.mem_cons_self ..)) Ef;refine sF w2.heap.size (ir L n) cap m gk sl sa (pL L n) g w' nP.size pI (Bl (CR H.hC Xv) nP) (fun p hp a ha=>⟨(hv.Gq p hp a false ha).1,fun z=>by cases z⟩) (H.rd UJ) fun a wr z=>iM (N:=w2.heap.size) (fun x hx=>by have:=(hl x hx).2;omega) (by omega) z wr
 have gC:∀r∈cM sa m g,Has (xW sl (ir L n) (pL L n)::cM sa m g) r:=fun r hr=>lg (List.mem_cons_of_mem _ hr) (pS r hr)
 have q1:0<ir L n→∃a,sl=some a∧Has (xW sl (ir L n) (pL L n)::cM sa m g) (fR a 6 (r8 (pL L n)) (ir L n) false):=fun z=>by
  obtain⟨b,o,rfl⟩:=Ef z;exact⟨_,rfl,lg (List.mem_cons_self ..) rfl⟩
 have q2:0<m→∃a,sa=some a∧Has (xW sl (ir L n) (pL L n)::cM sa m g) (fR a 2 (fun j=>[i6 (g j).st,.slice (g j).ta (g j).nt (g j).tc]) m false):=fun z=>by
  obtain⟨b,o,rfl,_⟩:=H.hC 0 z;exact⟨_,rfl,gC _ (List.mem_cons_of_mem _ (List.mem_cons_self ..))⟩
 have q3:∀j,j<m→0<(g j).nt→∃a,(g j).ta=some a∧Has (xW sl (ir L n) (pL L n)::cM sa m g) (fR a 3 (fun i=>[i6 ((g j).T i 0),i6 ((g j).T i 1),i6 ((g j).T i 2)]) (g j).nt false):=fun j hj z=>by
  obtain⟨b0,o0,_,_,_,ht⟩:=H.hC j hj;obtain⟨b,o,e,_⟩:=ht 0 z;refine⟨_,e,?_⟩;have:=gC (Pp g j) (List.mem_cons_of_mem _ (List.mem_cons_of_mem _ (List.mem_map.2 ⟨j,List.mem_range.2 hj,rfl⟩)));rw[show Pp g j=fR ⟨b,o,none⟩ 3 (fun i=>[i6 ((g j).T i 0),i6 ((g j).T i 1),i6 ((g j).T i 2)]) (g j).nt false by simp only[Pp,e,Option.getD_some]] at this;exact this
 by_cases vD:iK (ir L n) (pL L n) m g=(0,0)
 ·have Ss:=Kg w2.heap.size (.inr rfl)
  rw[vD] at Ss
  refine DN xZ af aJ (fun x hx=>by have:=(hl x hx).2;omega) Xv aW (HG L n) vD ny (by
   rw[cN];intro r hr;rcases List.mem_cons.1 hr with rfl|hr
   ·rfl
   ·exact(cN.1 Ib) r hr) (gC _ (List.mem_cons_self ..)) q1 q2 q3 Ss S2.env h2 K
 ·exact FF F hB af aJ aW fK dV (HG L n) vD q1 q2 q3 (Kg wI.heap.size (.inl rfl)) ⟨S2.env,h2,S2.sz⟩ fun w3 eu=>At.assume ig fun SN=>K l ng w3 xZ (fun x hx=>by have:=(hl x hx).2;omega) SN
end
end Go.Proofs.YtobagnjnbmgidaaGreatDoor
