import Derived.Test.YtobagnjnbmgidaaGreatDoorS1
import Derived.Test.YtobagnjnbmgidaaGreatDoorP10
set_option linter.all false
set_option maxHeartbeats 0
set_option maxRecDepth 100000
namespace Go.Proofs.YtobagnjnbmgidaaGreatDoor
open Go.Conc Go.RowKit Tryz
variable{ad ca:Addr}{b:Bk}{V:Ev0}{num pd pr si st:Int}{y:ko}{T bt c cap e g j l lb m n o aR ty:Nat}{s:PS}{C M R:aX}{w w':aj}{cf:aE}{wi:ay}{v:fH}{L:fL}{cs:cW}
variable{main:Bool}{B t:Nat}{Ok:dw}{Ψ:gi}{γ:Type}{kk:PK}{Lf:LS}{E:TE γ}
theorem Sat.cast{M':aX}(h:Sat Ok w M)(e:M=M'):Sat Ok w M':=e▸h
def Nk(o:Oper)(x y d ty:Nat):Bool:=o.guard.isNone&&(match o.dst with|some d'=>d'==d|none=>false)&&(match o.op with
 |.slice t (.tmp x') (some (.tmp y')) none none=>t==ty&&x'==x&&y'==y
 |_=>false)
theorem IZ{o:Oper}{x y d:Nat}(h:Nk o x y d ty=true):o.guard=none/\o.dst=some d/\o.op=.slice ty (.tmp x) (some (.tmp y)) none none:=by
 unfold Nk at h;simp only[cq]at h;obtain⟨⟨k,f⟩,a⟩:=h
 have i:o.guard=none:=by
  cases i:o.guard with
  |none=>rfl
  |some p=>rw[i]at k;cases k
 refine⟨i,?_,?_⟩
 .split at f
  .rename_i u q;rw[q];simp at f;rw[f]
  .cases f
 .split at a
  .rename_i t x' r ho
   simp only[cq,beq_iff_eq]at a;rw[ho,a.1.1,a.1.2,a.2]
  .cases a
theorem vF(a:lG prog ty e n bt=true)(w:aj){q:Nat}(p:l<=q)(k:q<=cap):(Instr.sliceAt ty (.slice (some ca) q cap) (some (.int .i64 (l:Int))) none none).run prog w=.ok (.slice (some (if cap=l then ca else ca.add (l*n))) (q-l) (cap-l)) w/\
 (Instr.sliceAt ty (.slice (some ca) q cap) (some (.int .i64 (l:Int))) none none).events prog w #[]=#[]:=by
 obtain⟨inf,z,h,f,A,d,x,u,r⟩:=kC a;have i:(l:Int)<=(q:Int):=by omega
 constructor
 .simp[Instr.sliceAt,run_underlying h,Instr.slice,Instr.sliceBounds,Instr.sliceBound,asInt,asIntOf,sizeOf,typeInfo,f,d,p,k,i]
  split<;>rfl
 .simp[Instr.sliceAt,run_underlying h,Instr.slice,Instr.sliceBounds,Instr.sliceBound,asInt,asIntOf,sizeOf,typeInfo,f,d,p,k,i]
theorem bkS(I:lG prog ty e n bt=true)(F:aC prog main (DX Ok) Ψ)(hB:HB B Ok){b:aE}(hk:b.kind=.normal){f A:Nat}{u:fL}{k:aP}(q:Nat)(O:List Hint)(bs:iM)(X:Env){N:Nat}{E:Env}{a:Act}(x y d:Nat){ln:Nat}(ht:mU (pc prog f A u k)=true)(D:((aL (pc prog f A u k))[q]?).map (λo=>Nk o x y d ty)=some true){lv:Int}(Oq:lv=(l:Int))(h:Bp prog [] [] (aL (pc prog f A u k)) q E M c c [x,y] (X.map Prod.fst) (iq prog B N E M c O bs (aL (pc prog f A u k)) q)=some ⟨[some (.slice (some ca) ln cap),some (i6 lv)],X.map (λp=>some p.2),M,c,[],[],[],true⟩)(hq:Mh Prod.fst (iq prog B N E M c O bs (aL (pc prog f A u k)) q)=Mh Prod.snd (iq prog B N E M c O bs (aL (pc prog f A u k)) q))(halt:uk prog (aL (pc prog f A u k)) [] [] true (iq prog B N E M c O bs (aL (pc prog f A u k)) q)=uk prog (aL (pc prog f A u k)) [] [] false (iq prog B N E M c O bs (aL (pc prog f A u k)) q))(P:(x==y)=false)(Q:(X.map Prod.fst).contains d=false)(Qf:.inRegion (aL (pc prog f A u k)) (bM (q+1) ((aL (pc prog f A u k)).size-(q+1)))::behind (pc prog f A u k)=pc prog f (A+1) u (k++[q+1]))(J:l<=ln)(hc:ln<=cap)(S:St Ok B N E M c a w)(K:∀a' w',St Ok B N ((d,.slice (some (if cap=l then ca else ca.add (l*n))) (ln-l) (cap-l))::X) M c a' w'->a'.defers=a.defers->Ψ (G (b.at a' (pc prog f (A+1) u (k++[q+1]))) cs) w'):Ψ (G (b.at a (pc prog f A u k)) cs) w:=by
 subst Oq;cases H:(aL (pc prog f A u k))[q]? with
 |none=>rw[H]at D;cases D
 |some o=>
  rw[H]at D;obtain⟨g1,g2,g3⟩:=IZ (Option.some.inj D);refine bkO (Post:=λv w'=>v=.slice (some (if cap=l then ca else ca.add (l*n))) (ln-l) (cap-l)/\Sat Ok w' M/\w'.heap.size=B+c) [] [] F aB hB hk q O bs c [(x,.slice (some ca) ln cap),(y,i6 l)] X M c [] [] [] ht H h hq (λW U=>?_) halt cg cg cg S (λv w2 z=>?_) (λa1 Z rest Y KK=>?_) (λv w2 a2 w3 z hA wX SY gQ=>?_)
  .rw[g2]at U;cases U
   intro hm;rw[MH.2 hm]at Q;cases Q
  .exact⟨z.2.1.dD (λi r hr=>by cases hr),by have:=z.2.2;omega⟩
  .have e1:a1.eval (.tmp x)=.slice (some ca) ln cap:=by rw[Y.env.eval (by simp[kn,look])];simp[ev,look]
   have e2:a1.eval (.tmp y)=.int .i64 (l:Int):=by rw[Y.env.eval (by simp[kn,look,P])];simp[ev,look,P]
   refine F.Ac H (by simp[Region.wanted,g1]) (by rw[hk];decide) (λW=>?_) λW K' hK=>?_
   .unfold execOp;simp only[g3,fy,xA,e1,e2,xB,(vF I (Z.at W) (ca:=ca) J hc).1,(vF I (Z.at W) (ca:=ca) J hc).2,xE];rfl
   .unfold execOp;simp only[g3,fy,xA,e1,e2,A9,(vF I (Z.at W) (ca:=ca) J hc).1,It]
    exact hK _ (KK _ _ ⟨rfl,Y.sat,Y.sz⟩)
  .obtain⟨rfl,z2,z3⟩:=z
   rw[Qf];rw[g2]at hA;exact K a2 w3 ⟨hA,z2.keep SY,by omega⟩ wX
theorem oL(F:aC prog main (DX Ok) Ψ)(hB:HB B Ok){q:Int}{N J I fv:ay}(z:Sat Ok w (pM s++(oR lb 8 [N,J,i6 pd,I,fv] true::C)))(h1:Has C (uj lb wi num s.k.J))(D:Has C (zL T s.k.A t aR))(hv:Vc Ok s.ea s.l.el s.ec)(gp:B<=w.heap.size)(d:s.l.el<1000000)(hc:(s.l.tk t).c=t)(JN:0<=pd/\pd<1000000)(K:∀g' cap' vs' w',Sat Ok w' (pM (s.dR g' cap' vs' (s.l.say t num q 0))++(oR lb 8 [i6 st,i6 s.l.now,i6 (pd+1),i6 0,.slice none 0 0] true::C))->Vc Ok (some ⟨g',0,none⟩) (s.l.el+1) cap'->w.heap.size<=w'.heap.size->Ψ (G (cf.finish (.tuple #[])) cs) w'):
 Ψ (G (Frame.enter prog 174 #[ptr lb,i6 st,ptr T,i6 q] .normal) (cf::cs)) w:=by
 have h:IntKind.wrap .i64 (pd+1)=pd+1:=aA (by omega) (by omega);replace z:=z.get (D.cons.app (pM s));refine dg f174 func174 _ rfl 36 (by kernel_rfl) z λbb a0 B1 hn a x u S0 W=>?_
 refine aq F hB a u S0 58 [0,0,0,1,1,0,0,1,8,0,0,3,8,0,2,3] [] [] [(34,i6 q),(33,ptr T),(32,ptr lb)] (λM=>bu 8 (0,4) (.slice none 0 0) (bu 8 (0,3) (i6 0) (bu 8 (0,2) (i6 (IntKind.wrap .i64 (pd+1))) (bu 8 (0,1) (i6 s.l.now) (bu 8 (0,0) (i6 st) (M)))))) 0 42 [] [] λa1 P A r U Z dS=>?_
 rw[h]at A;have h3:Sat Ok P (zL T s.k.A t aR::(pM s++(oR lb 8 [i6 st,i6 s.l.now,i6 (pd+1),i6 0,.slice none 0 0] true::C))):=A.sat.cast (by kernel_rfl);refine bK F a r A 35 149 #[ptr lb,ptr T,i6 q,i6 0] λgJ f=>?_
 refine Fg F hB h3.tail (h1.cons) (D.cons) hv (by omega) d hc λg' cap' vs' w2 h4 i X=>f _ _ _ h4 λa2 B2 S2 p S=>?_
 refine aq F hB a p S2 1 [] [] [] [] (λM=>M) 0 44 [] [] λa3 O H k Q Y dX=>?_
 refine cV F H a x k [] (.tuple #[]) ?_;exact K g' cap' vs' O H.sat i (by omega)
abbrev QW(lb:Nat)(x0 x1 x2 x3:ay)(ad:Addr)(c:Nat)(L:fL)(y:ko):List aJ:=[oR lb 8 [x0,x1,x2,x3,.slice (some ad) L.length c] false,CH ad L,oR lb 3 [i6 y.a,i6 y.b,i6 y.c,i6 y.d,i6 y.e] false]
theorem Bo{q p k f:ay}(h:Fr (Wr (QW lb q p k f ad c L y)) w w'):Fr (λ_=>False) w w':=h.Dg λa ⟨i,r,j,d,u,_⟩=>by
 rw[dN]at d;have:=tH d;simp only[ak,bB,or_false]at this;rcases this with rfl|rfl|rfl<;>cases u
theorem wB(F:aC prog main (DX Ok) Ψ)(hB:HB B Ok){bb:aE}(d:bb.kind=.normal)(x:bb.fn=170){cf:aE}{cs:cW}{lb c B1:Nat}{X W U S:ay}{ad:Addr}{L:fL}{y:ko}{w0:aj}(hL:L.length<=30)(u:B<=B1):
 ∀(m i:Nat)(q:Act)(w:aj),i+m=L.length->q.defers=[]->w.heap.size=B1->Fr (λ_=>False) w0 w->St Ok B1 32 [(11,i6 i),(10,i6 L.length),(9,.slice (some ad) L.length c),(3,i6 (dQ (L.take i))),(0,ptr lb)] (QW lb X W U S ad c L y) 0 q w->
   (∀a' w',a'.defers=[]->w'.heap.size=B1->Fr (λ_=>False) w0 w'->St Ok B1 32 [(11,i6 L.length),(10,i6 L.length),(9,.slice (some ad) L.length c),(3,i6 (dQ L)),(0,ptr lb)] (QW lb X W U S ad c L y) 0 a' w'->Ψ (G (bb.at a' (pc prog 170 20 [] [])) (cf::cs)) w')->Ψ (G (bb.at q (pc prog 170 20 [] [])) (cf::cs)) w
 |0,i,q,w,O,a,r,D,A,K=>by
  rw[iO]at O;subst O;rw[List.take_length]at A;exact K q w a r D A
 |m+1,i,q,w,O,a,r,D,A,K=>by
  have g1:decide ((i:Int)<(L.length:Int))=true:=by simp;omega
  have Z:IntKind.wrap .i64 ((i:Int)+1)=((i+1:Nat):Int):=by rw[aA (by omega) (by omega)];rfl
  have p:=u9 (L:=L) (i:=i) (by omega);have P:=qZ (L.take i);rw[rJ]at P;cases Y:L.getD i false with
  |true=>
   rw[Y,ah rfl]at p;have N:IntKind.wrap .i64 ((dQ (L.take i):Int)+1)=((dQ (L.take (i+1)):Nat):Int):=by rw[p,aA (by omega) (by omega)];rfl
   refine bA F hB d a A 31 [1,i,0,101] [2,2,2] [] [(11,i6 (IntKind.wrap .i64 ((↑i:Int)+1))),(3,i6 (IntKind.wrap .i64 ((↑(dQ (List.take i L)):Int)+1))),(10,i6 (↑(List.length L):Int)),(9,.slice (some ad) (List.length L) c),(0,ptr lb)] (λM=>M) 0 51 [true,true] [] [(List.getD L i false,true),(decide ((↑i:Int)<(↑(List.length L):Int)),true)] [((↑i:Int),List.length L)] [(1,(i,List.length L))] λQ H k f I J h=>?_
   rw[Z,N]at k;replace k:=k.dD [(11,i6 ((i+1:Nat):Int)),(10,i6 L.length),(9,.slice (some ad) L.length c),(3,i6 (dQ (L.take (i+1)))),(0,ptr lb)] rfl;rw[show pc prog 170 51 [true,true] []=pc prog 170 20 [] [] by kernel_rfl];exact wB F hB d x hL u m (i+1) Q H (by omega) f (by omega) (D.trans (Bo h) (λ_ z=>z.elim)) k K
  |false=>
   rw[Y,af (by decide)]at p;replace p:dQ (L.take (i+1))=dQ (L.take i):=p;refine bA F hB d a A 27 [1,i,0,101] [2,2,0] [] [(11,i6 (IntKind.wrap .i64 ((↑i:Int)+1))),(10,i6 (↑(List.length L):Int)),(9,.slice (some ad) (List.length L) c),(3,i6 (↑(dQ (List.take i L)):Int)),(0,ptr lb)] (λM=>M) 0 47 [true,false] [] [(List.getD L i false,false),(decide ((↑i:Int)<(↑(List.length L):Int)),true)] [((↑i:Int),List.length L)] [(1,(i,List.length L))] λQ H k f I J h=>?_
   rw[Z,<-p]at k;rw[show pc prog 170 47 [true,false] []=pc prog 170 20 [] [] by kernel_rfl];exact wB F hB d x hL u m (i+1) Q H (by omega) f (by omega) (D.trans (Bo h) (λ_ z=>z.elim)) k K
theorem Cp(F:aC prog main (DX Ok) Ψ)(hB:HB B Ok){J I H D:ay}(hL:L.length<=30)(f:1<=y.c/\y.c<=100)(gp:B<=w.heap.size)(hS:Sat Ok w (QW lb J I H D ad c L y))(K:∀w',Fr (λ_=>False) w w'->Ψ (G (cf.finish (.bool (over y L))) cs) w'):
 Ψ (G (Frame.enter prog 170 #[ptr lb] .normal) (cf::cs)) w:=by
 have g1:decide ((L.length:Int)<(L.length:Int))=false:=by simp
 have Av:=qZ L;have Z:0<=y.c*(L.length:Int):=rI (by omega) (by omega);have Y:y.c*(L.length:Int)<=100*30:=xy f.2 (by omega) (by omega) (by omega);have i:IntKind.wrap .i64 (100*(dQ L:Int))=100*(dQ L:Int):=aA (by omega) (by omega);have h:IntKind.wrap .i64 (y.c*(L.length:Int))=y.c*(L.length:Int):=aA (by omega) (by omega);refine dg f170 func170 _ rfl 32 (by kernel_rfl) hS λbb a0 B1 hn a d u S0 U=>?_
 refine aq F hB a u S0 20 [0,0,4,1] [] [] [(11,i6 0),(10,i6 (↑(List.length L):Int)),(9,.slice (some ad) (List.length L) c),(3,i6 0),(0,ptr lb)] (λM=>M) 0 20 [] [] λa1 O S1 r S X A=>?_
 refine wB F hB a d hL (B1:=B1) (by omega) L.length 0 a1 O (bD _) r (by omega) (Bo A) S1 λa2 w2 q Q k S2=>?_
 refine bA F hB a q S2 12 [2,0,2,1,0,0,4,1] [0] [12] [(2,.bool (decide (IntKind.wrap .i64 (100*(↑(dQ L):Int))≥IntKind.wrap .i64 (y.c*(↑(List.length L):Int)))))] (λM=>M) 0 32 [false] [12] [(decide ((↑(List.length L):Int)<(↑(List.length L):Int)),false)] [] [] λa3 N S3 p P W x=>?_
 refine cV F S3 a d p [] (.bool (decide (IntKind.wrap .i64 (100*(↑(dQ L):Int))≥IntKind.wrap .i64 (y.c*(↑(List.length L):Int))))) ?_;rw[i,h,show decide (100*(dQ L:Int)≥y.c*(L.length:Int))=over y L by unfold over;simp[Int.mul_comm]];exact K N (k.trans (Bo x) (λ_ z=>z.elim))
theorem Sat.vw{u q p k:ay}(h:Sat Ok w (pM s++(oR lb 8 [u,q,p,k,.slice (some ⟨g,o,none⟩) L.length c] true::fR ⟨g,0,none⟩ 1 v (o+c) true::C)))(H:Has C (oR lb 3 [i6 y.a,i6 y.b,i6 y.c,i6 y.d,i6 y.e] false))(G:L.length<=c)(F:∀j,j<L.length->(v (o+j)).getD 0 undef=.bool (L.getD j false)):Sat Ok w (QW lb u q p k ⟨g,o,none⟩ c L y):=by
 have m1:=h.mem (r:=oR lb 8 [u,q,p,k,.slice (some ⟨g,o,none⟩) L.length c] true) (by simp);have x:=h.mem (r:=fR ⟨g,0,none⟩ 1 v (o+c) true) (by simp);obtain⟨_,J,i⟩:=H;have A:=h.mem (r:=oR lb 3 [i6 y.a,i6 y.b,i6 y.c,i6 y.d,i6 y.e] false) (by rw[dN]at i;have:=tH i;simp[this]);refine sat_iff.2 ⟨λr d=>?_,?_⟩
 .simp only[ak,bB,or_false]at d
  rcases d with rfl|rfl|rfl
  .exact⟨m1.val,λj hj=>⟨(m1.ok j hj).1,λz=>(by cases z)⟩,λz=>(by cases z),λg e n z=>(by cases z)⟩
  .have key:∀j:Ix,(CH (⟨g,o,none⟩:Addr) L).has j->(fR ⟨g,0,none⟩ 1 v (o+c) true).has (o+j.1,0)/\(CH (⟨g,o,none⟩:Addr) L).ad j=(fR ⟨g,0,none⟩ 1 v (o+c) true).ad (o+j.1,0)/\(CH (⟨g,o,none⟩:Addr) L).get j=(fR ⟨g,0,none⟩ 1 v (o+c) true).get (o+j.1,0):=λj hj=>by
    obtain⟨j,f⟩:=j;have I:j<L.length:=hj.1;have K:f<1:=hj.2;obtain rfl:f=0:=by omega
    exact⟨⟨by show o+j<o+c;omega,aG⟩,by simp[dJ],(F j I).symm⟩
   exact⟨λj hj=>by rw[(key j hj).2.1,(key j hj).2.2];exact x.val _ (key j hj).1,λj hj=>⟨by rw[(key j hj).2.1];exact(x.ok _ (key j hj).1).1,λz=>(by cases z)⟩,λz=>(by cases z),λg e n z=>(by cases z)⟩
  .exact A
 .refine Zh λr d r' a D=>?_
  simp only[ak,bB,or_false]at d a
  exfalso
  rcases D with z|z
  .rcases d with rfl|rfl|rfl<;>cases z
  .rcases a with rfl|rfl|rfl<;>cases z
theorem Gs(F:aC prog main (DX Ok) Ψ)(hB:HB B Ok)(X:Sat Ok w (pM s++(oR lb 8 [i6 st,i6 si,i6 pd,i6 pr,.slice (some ⟨g,o,none⟩) L.length c] true::fR ⟨g,0,none⟩ 1 v (o+c) true::C)))(h1:Has C (uj lb wi num s.k.J))(h2:Has C (zL T s.k.A t aR))(h3:Has C (oR lb 3 [i6 y.a,i6 y.b,i6 y.c,i6 y.d,i6 y.e] false))(hv:Vc Ok s.ea s.l.el s.ec)(gp:B<=w.heap.size)(I:s.l.el<1000000)(hc:(s.l.tk t).c=t)(JN:0<=pd/\pd<1000000)(nM:0<L.length)(Yo:L.length<=c)(Vx:(L.length:Int)<=y.a+1)(hy:(1<=y.a/\y.a<=20)/\(1<=y.c/\y.c<=100))(H:∀j,j<L.length->(v (o+j)).getD 0 undef=.bool (L.getD j false)){L':fL}(hL':L'=if(L.length:Int)>y.a then L.tail else L)(K1:¬(y.b<=L'.length/\over y L'=true)->∀W Y w',W+Y=o+c->L'.length<=Y->(∀j,j<L'.length->(v (W+j)).getD 0 undef=.bool (L'.getD j false))->Sat Ok w' (pM s++(oR lb 8 [i6 st,i6 si,i6 pd,i6 pr,.slice (some ⟨g,W,none⟩) L'.length Y] true::fR ⟨g,0,none⟩ 1 v (W+Y) true::C))->w.heap.size<=w'.heap.size->Ψ (G (cf.finish (.tuple #[])) cs) w')(K2:y.b<=L'.length/\over y L'=true->∀g' cap' vs' w',Sat Ok w' (pM (s.dR g' cap' vs' (s.l.say t num 9 0))++(oR lb 8 [i6 1,i6 s.l.now,i6 (pd+1),i6 0,.slice none 0 0] true::C))->Vc Ok (some ⟨g',0,none⟩) (s.l.el+1) cap'->w.heap.size<=w'.heap.size->Ψ (G (cf.finish (.tuple #[])) cs) w'):
 Ψ (G (Frame.enter prog 176 #[ptr lb,ptr T] .normal) (cf::cs)) w:=by
 obtain⟨l,hl,hlw⟩:∃l:Nat,(l=if(L.length:Int)>y.a then 1 else 0)/\(l:Int)=(if IntKind.wrap .i64 ((L.length:Int)-y.a)>0 then IntKind.wrap .i64 ((L.length:Int)-y.a)else 0):=by
  rw[aA (by omega) (by omega)]
  by_cases z:(L.length:Int)>y.a
  .exact⟨1,by rw[ah z],by rw[ah (by omega)];omega⟩
  .exact⟨0,by rw[af z],by rw[af (by omega)];rfl⟩
 have K:L'=L.drop l:=by
  rw[hL',hl]
  split<;>simp
 have hl1:l<=1:=by rw[hl];split<;>omega
 have Xt:l<L.length:=by
  rw[hl];split
  .omega
  .omega
 have hLl:L'.length=L.length-l:=by rw[K,Bj]
 have Yh:=X;replace X:=X.get (h3.cons.cons.app (pM s));refine dg f176 func176 _ rfl 40 (by kernel_rfl) X λbb a0 B1 hn d A jf S0 iI=>?_
 refine aq F hB d jf S0 1 [] [] [] [(0,ptr lb),(1,ptr T)] (λM=>M) 0 1 [] [] λa1 w1 S1 kJ iH jA dS=>?_
 refine bkS t152 F (λa wr z=>hB a wr (by omega)) d 16 [(8,(0,4),true),(8,(0,4),true),(0,(0,0),true)] [] [(4,ptr lb),(0,ptr lb),(1,ptr T)] 8 19 20 (ca:=⟨g,o,none⟩) (l:=l) (ln:=L.length) (cap:=c) (by kernel_rfl) (by kernel_rfl) hlw.symm (by kernel_rfl) (by kernel_rfl) (by kernel_rfl) rfl (by kernel_rfl) (by kernel_rfl) (Nat.le_of_lt Xt) Yo S1 λa2 w2 S2 x=>?_
 have eo:(if c=l then(⟨g,o,none⟩:Addr)else(⟨g,o,none⟩:Addr).add (l*1))=⟨g,o+l,none⟩:=by rw[af (by omega),dJ,mN]
 rw[eo,<-hLl]at S2;rw[kJ]at x;have fV:w2.heap.size=B1:=by have:=S2.sz;omega
 have p:∀j,j<L'.length->(v (o+l+j)).getD 0 undef=.bool (L'.getD j false):=λj hj=>by
  rw[show o+l+j=o+(l+j) by omega,H (l+j) (by omega),K];simp[List.getD,EE]
 have q:o+l+(c-l)=o+c:=by omega
 have fin:∀f:World,w2.heap.size<=f.heap.size->Sat Ok f (bu 8 (0,4) (.slice (some (Addr.mk g (o+l) none)) (List.length L') (c-l)) (oR lb 3 [i6 y.a,i6 y.b,i6 y.c,i6 y.d,i6 y.e] false::(pM s++(oR lb 8 [i6 st,i6 si,i6 pd,i6 pr,.slice (some ⟨g,o,none⟩) L.length c] true::fR ⟨g,0,none⟩ 1 v (o+c) true::C))))->Sat Ok f (pM s++(oR lb 8 [i6 st,i6 si,i6 pd,i6 pr,.slice (some ⟨g,o+l,none⟩) L'.length (c-l)] true::fR ⟨g,0,none⟩ 1 v (o+l+(c-l)) true::C)):=λf D h=>by
  rw[q];have h4:Sat Ok f (oR lb 3 [i6 y.a,i6 y.b,i6 y.c,i6 y.d,i6 y.e] false::(pM s++(oR lb 8 [i6 st,i6 si,i6 pd,i6 pr,.slice (some ⟨g,o+l,none⟩) L'.length (c-l)] true::fR ⟨g,0,none⟩ 1 v (o+c) true::C))):=h.cast (by kernel_rfl);exact h4.tail
 by_cases k:y.b<=L'.length
 .have J:decide ((L'.length:Int)≥y.b)=true:=by simpa using k
  refine bA F hB d x S2 9 [8,0,4,1,8,0,4,1,0,0,1,1] [2] [9] [(34,ptr lb),(33,.bool true),(0,ptr lb),(1,ptr T)] (λM=>bu 8 (0,4) (.slice (some (Addr.mk g (o+l) none)) (List.length L') (c-l)) (M)) 0 11 [] [17,9] [(decide ((↑(List.length L'):Int)≥y.b),true)] [] [] λa3 f U u gQ D dX=>?_
  refine bK F d u U 35 170 #[ptr lb] λlq Q=>?_
  have h5:=fin f (by omega) U.sat;refine Cp F hB (L:=L') (y:=y) (by omega) hy.2 (by omega) (h5.vw h3 (by omega) p) λw4 N=>?_
  have oB:=N.size;refine Q _ _ _ (h5.keep N) λa4 B4 Z O jP=>?_
  cases i:over y L' with
  |true=>
   rw[i]at Z;refine aq F hB d O Z 6 [] [3] [] [(38,ptr T),(37,ptr lb)] (λM=>M) 0 18 [true] [17,9] λa5 w5 S r mz kT jv=>?_
   refine bK F d r S 39 174 #[ptr lb,i6 1,ptr T,i6 9] λEB P=>?_
   refine oL F hB S.sat h1.cons h2.cons hv (by omega) I hc JN λg' cap' vs' w6 h6 hv6 yw=>P _ _ _ h6 λa6 B6 S6 nB oS=>?_
   refine aq F hB d nB S6 1 [] [] [] [] (λM=>M) 0 20 [true] [17,9] λa7 w7 S7 lW oA oT tu=>?_
   refine cV F S7 d A lW [] (.tuple #[]) ?_;exact K2 ⟨k,i⟩ g' cap' vs' w7 (S7.sat.sub (nR (.cons_cons _ (.cons _ (.refl _))) _)) hv6 (by omega)
  |false=>
   rw[i]at Z;refine aq F hB d O Z 4 [] [1] [] [] (λM=>M) 0 16 [false] [17,9] λa5 w5 S r mz kT jv=>?_
   refine cV F S d A r [] (.tuple #[]) ?_;exact K1 (λz=>by rw[i]at z;cases z.2) (o+l) (c-l) w5 q (by omega) p S.sat (by omega)
 .have J:decide ((L'.length:Int)≥y.b)=false:=by simpa using k
  refine bA F hB d x S2 14 [8,0,4,1,8,0,4,1,0,0,1,1] [0,1,1] [9] [] (λM=>bu 8 (0,4) (.slice (some (Addr.mk g (o+l) none)) (List.length L') (c-l)) (M)) 0 16 [false] [17,9] [(decide ((↑(List.length L'):Int)≥y.b),false)] [] [] λa3 f U u gQ D dX=>?_
  refine cV F U d A u [] (.tuple #[]) ?_;exact K1 (λz=>k z.1) (o+l) (c-l) f q (by omega) p (fin f (by omega) U.sat) (by omega)
theorem Gv(F:aC prog main (DX Ok) Ψ)(hB:HB B Ok)(P:Sat Ok w (pM s++(oR lb 8 [i6 st,i6 si,i6 pd,i6 pr,.slice (some ⟨g,o,none⟩) L.length c] true::fR ⟨g,0,none⟩ 1 v (o+c) true::C)))(h1:Has C (uj lb wi num s.k.J))(h2:Has C (zL T s.k.A t aR))(h3:Has C (oR lb 3 [i6 y.a,i6 y.b,i6 y.c,i6 y.d,i6 y.e] false))(hv:Vc Ok s.ea s.l.el s.ec)(gp:B<=w.heap.size)(f:s.l.el<1000000)(hc:(s.l.tk t).c=t)(A:0<=pd/\pd<1000000)(Yo:L.length<=c)(hLe:(L.length:Int)<=y.e)(hy:(1<=y.c/\y.c<=100)/\(1<=y.e/\y.e<=9))(z:∀j,j<L.length->(v (o+j)).getD 0 undef=.bool (L.getD j false))(K1:(L.length:Int)≠y.e->∀w',Sat Ok w' (pM s++(oR lb 8 [i6 st,i6 si,i6 pd,i6 pr,.slice (some ⟨g,o,none⟩) L.length c] true::fR ⟨g,0,none⟩ 1 v (o+c) true::C))->w.heap.size<=w'.heap.size->Ψ (G (cf.finish (.tuple #[])) cs) w')(K2:(L.length:Int)=y.e->∀g' cap' vs' w',Sat Ok w' (pM (s.dR g' cap' vs' (s.l.say t num (bif over y L then 9 else 11) 0))++(oR lb 8 [i6 (bif over y L then 1 else 0),i6 s.l.now,i6 (pd+1),i6 0,.slice none 0 0] true::C))->Vc Ok (some ⟨g',0,none⟩) (s.l.el+1) cap'->w.heap.size<=w'.heap.size->Ψ (G (cf.finish (.tuple #[])) cs) w'):
 Ψ (G (Frame.enter prog 177 #[ptr lb,ptr T] .normal) (cf::cs)) w:=by
 have Yh:=P;replace P:=P.get (h3.cons.cons.app (pM s));refine dg f177 func177 _ rfl 22 (by kernel_rfl) P λbb a0 B1 hn a u J S0 iI=>?_
 by_cases i:(L.length:Int)=y.e
 .refine bA F hB a J S0 10 [8,0,4,1,0,0,4,1] [0] [9] [(14,ptr lb),(0,ptr lb),(1,ptr T)] (λM=>M) 0 10 [false] [9] [(decide ((↑(List.length L):Int)<y.e),false)] [] [] λa1 w1 x r Y jA dS=>?_
  refine bK F a r x 15 170 #[ptr lb] λgJ K=>?_
  refine Cp F hB (L:=L) (y:=y) (by omega) hy.1 (by omega) (x.sat.tail.vw h3 Yo z) λw2 H=>?_
  have je:=H.size;refine K _ _ _ (x.sat.tail.keep H) λa2 B2 Q I fV=>?_
  cases D:over y L with
  |true=>
   rw[D]at Q K2;refine aq F hB a I Q 5 [] [3] [] [(17,ptr T),(16,ptr lb)] (λM=>M) 0 16 [false,true] [9] λa3 w3 O q X ji dX=>?_
   refine bK F a q O 18 174 #[ptr lb,i6 1,ptr T,i6 9] λlq d=>?_
   refine oL F hB O.sat h1.cons h2.cons hv (by omega) f hc A λg' cap' vs' w4 h4 h oB=>d _ _ _ h4 λa4 B4 S4 p W=>?_
   refine aq F hB a p S4 1 [] [] [] [] (λM=>M) 0 18 [false,true] [9] λa5 S N k U Z jv=>?_
   refine cV F N a u k [] (.tuple #[]) ?_;exact K2 i g' cap' vs' S (N.sat.sub (nR (.cons_cons _ (.cons _ (.refl _))) _)) h (by omega)
  |false=>
   rw[D]at Q K2;refine aq F hB a I Q 5 [] [1] [] [(20,ptr T),(19,ptr lb)] (λM=>M) 0 16 [false,false] [9] λa3 w3 O q X ji dX=>?_
   refine bK F a q O 21 174 #[ptr lb,i6 0,ptr T,i6 11] λlq d=>?_
   refine oL F hB O.sat h1.cons h2.cons hv (by omega) f hc A λg' cap' vs' w4 h4 h oB=>d _ _ _ h4 λa4 B4 S4 p W=>?_
   refine aq F hB a p S4 1 [] [] [] [] (λM=>M) 0 18 [false,false] [9] λa5 S N k U Z jv=>?_
   refine cV F N a u k [] (.tuple #[]) ?_;exact K2 i g' cap' vs' S (N.sat.sub (nR (.cons_cons _ (.cons _ (.refl _))) _)) h (by omega)
 .refine bA F hB a J S0 6 [8,0,4,1,0,0,4,1] [2] [9] [] (λM=>M) 0 6 [true] [9] [(decide ((↑(List.length L):Int)<y.e),true)] [] [] λa1 w1 x r Y jA dS=>?_
  refine cV F x a u r [] (.tuple #[]) ?_;exact K1 i w1 x.sat.tail (by omega)
theorem sV{x:Int}(a:x≠7):∀(ch:List iF),ch≠[]->(∀y∈ch.dropLast,y.k=7)->(ch.any λy=>y.k==x)=decide ((match ch.getLast? with|some y=>y.k|none=>0)=x)
 |[],h,_=>absurd rfl h
 |[y],_,_=>by simp;by_cases e:y.k=x<;>simp[e]
 |y::z::ch,_,h=>by
  have i:y.k=7:=h y (by simp);have f:(y.k==x)=false:=by rw[i];simpa using λe=>a e.symm
  rw[Bb,f,uy,sV a (z::ch) (by simp) (λu d=>h u (by rw[List.dropLast_cons_of_ne_nil (by simp)];exact aO _ d))]
  rfl
theorem uL(F:aC prog main (DX Ok) Ψ)(hB:HB B Ok){e:ay}(D:Is b)(k:(b.k≠2/\e=.nilIface)\/(b.k=2/\lz C e b.ch))(hS:Sat Ok w C)(gp:B<=w.heap.size)(K:∀w',Sat Ok w' C->w.heap.size<=w'.heap.size->Ψ (G (cf.finish (.bool (decide (bh b=3\/bh b=5)))) cs) w'):
 Ψ (G (Frame.enter prog 175 #[e] .normal) (cf::cs)) w:=by
 rcases k with ⟨hk,rfl⟩|⟨hk,k⟩
 .have h0:b.ch=[]:=by
   rcases D.2.2 with ⟨_,z⟩|⟨z,_⟩|⟨_,z⟩
   .exact z
   .exact absurd z hk
   .exact z
  have hl:bh b=0:=by unfold bh;rw[h0];rfl
  rw[hl]at K;refine dg f175 func175 _ rfl 11 (by kernel_rfl) hS λbb a0 B1 hn a f i X O=>?_
  refine bP F hB a f i X 62 [] [3,3,3,1,1,1,3,3,3] [] 2 (.bool false) (λM=>M) 0 16 [] [] λZ I N Q=>?_
  exact K Z I.sat (by omega)
 .have d:b.ch≠[]:=by
   rcases D.2.2 with ⟨z,_⟩|⟨_,_,z⟩|⟨z,_⟩
   .omega
   .exact z
   .omega
  have e3:(b.ch.any λy=>y.k==3)=decide (bh b=3):=sV (by decide) b.ch d D.2.1;have e5:(b.ch.any λy=>y.k==5)=decide (bh b=5):=sV (by decide) b.ch d D.2.1
  obtain⟨q,hq⟩:∃q,e=.iface 168 (ptr q):=by
   cases r:b.ch with
   |nil=>exact absurd r d
   |cons y ch=>rw[r]at k;obtain⟨q,_,h,_⟩:=k;exact⟨q,h⟩
  subst hq;refine dg f175 func175 _ rfl 11 (by kernel_rfl) hS λbb a0 B1 hn a f i X O=>?_
  refine aq F hB a i X 8 [] [] [] [(4,.iface 171 (i6 3)),(3,.iface 168 (ptr q)),(0,.iface 168 (ptr q))] (λM=>M) 0 8 [] [] λa1 Z I W N Q dS=>?_
  refine bK F a W I 5 163 #[.iface 168 (ptr q),.iface 171 (i6 3)] λgJ x=>?_
  refine JE F hB k d I.sat (by omega) λw2 h2 je=>x _ _ _ h2 λa2 B2 A p fV=>?_
  rw[e3]at A
  by_cases h:bh b=3
  .rw[show decide (bh b=3)=true by simpa using h]at A
   rw[show decide (bh b=3\/bh b=5)=true by simp[h]]at K;refine bP F hB a f p A 7 [] [3,3,3] [] 2 (.bool true) (λM=>M) 0 16 [] [] λY H J P=>?_
   exact K Y H.sat (by omega)
  .rw[show decide (bh b=3)=false by simpa using h]at A
   rw[show decide (bh b=3\/bh b=5)=decide (bh b=5) by simp[h]]at K;refine aq F hB a p A 3 [] [1,1] [] [(8,.iface 171 (i6 5)),(6,.bool false),(7,.iface 168 (ptr q))] (λM=>M) 0 12 [] [] λa3 Y H U J P dX=>?_
   refine bK F a U H 9 163 #[.iface 168 (ptr q),.iface 171 (i6 5)] λlq u=>?_
   refine JE F hB k d H.sat (by omega) λw4 h4 oB=>u _ _ _ h4 λa4 B4 S4 S jP=>?_
   rw[e5]at S4;refine bP F hB a f S S4 3 [] [] [] 2 (.bool (decide (bh b=5))) (λM=>M) 0 16 [] [] λw5 S5 mz kT=>?_
   exact K w5 S5.sat (by omega)
abbrev mL(lb:Nat)(g:Gt)(f:Fb):List aJ:=[oR lb 8 [i6 g.st,i6 g.si,i6 g.pd,i6 g.pr,Hs f g.la.length] true,fR ⟨f.g,0,none⟩ 1 f.v (f.o+f.c) true]
def BK(Ok:dw)(Ψ:gi)(cf:aE)(cs:cW)(w:aj)(s:PS)(C:aX)(lb j:Nat)(L:LS):Prop:=
 ∀ea ec vv f' w',Sat Ok w' (pM {s with ea:=ea,ec:=ec,vv:=vv,f:=upd s.f j f',l:=L}++(mL lb (L.gt j) f'++C))->Vc Ok ea L.el ec->qF Ok (L.gt j).la f'->w.heap.size<=w'.heap.size->Ψ (G (cf.finish (.tuple #[])) cs) w'
def kN:Fb:=⟨false,0,0,0,λ_=>[]⟩
theorem AL:qF Ok [] kN:=⟨λ_=>⟨rfl,rfl,rfl⟩,λz=>(by cases z),λz=>(by cases z),λj hj=>(by cases hj)⟩
theorem ug(L:LS)(j:Nat)(g:Gt):(L.aS j g).gt j=g:=by simp[LS.aS,upd]
theorem BK.turn{cf:aE}{cs:cW}{w w':aj}{s:PS}{C:aX}{lb j t g' cap':Nat}{vs':fH}{st q:Int}{L:LS}(K:BK Ok Ψ cf cs w s C lb j ((L.aS j ((L.gt j).turn L.now st)).say t j q 0))(k:L.now=s.l.now/\L.el=s.l.el/\L.ev=s.l.ev/\L.us=s.l.us/\L.ou=s.l.ou/\(L.tk t).c=(s.l.tk t).c)(h:Sat Ok w' (pM (s.dR g' cap' vs' (s.l.say t j q 0))++(oR lb 8 [i6 st,i6 s.l.now,i6 ((L.gt j).pd+1),i6 0,.slice none 0 0] true::C)))(i:Vc Ok (some ⟨g',0,none⟩) (s.l.el+1) cap')(d:w.heap.size<=w'.heap.size):Ψ (G (cf.finish (.tuple #[])) cs) w':=by
 obtain⟨e1,e2,F,D,A,z⟩:=k;have a:((L.aS j ((L.gt j).turn L.now st)).say t j q 0).gt j=(L.gt j).turn L.now st:=ug L j _;refine K (some ⟨g',0,none⟩) cap' vs' kN w' ?_ (by show Vc Ok _ (L.el+1) _;rw[e2];exact i) (by rw[a];exact AL) d;rw[a];have r:Sat Ok w' (fR ⟨kN.g,0,none⟩ 1 kN.v (kN.o+kN.c) true::(pM (s.dR g' cap' vs' (s.l.say t j q 0))++(oR lb 8 [i6 st,i6 s.l.now,i6 ((L.gt j).pd+1),i6 0,.slice none 0 0] true::C))):=h.ff rfl rfl;have p:=r.perm (iP [fR ⟨kN.g,0,none⟩ 1 kN.v (kN.o+kN.c) true] (pM (s.dR g' cap' vs' (s.l.say t j q 0))++[oR lb 8 [i6 st,i6 s.l.now,i6 ((L.gt j).pd+1),i6 0,.slice none 0 0] true]) C|>.trans (by simp)|>λx=>(show(fR ⟨kN.g,0,none⟩ 1 kN.v (kN.o+kN.c) true::(pM (s.dR g' cap' vs' (s.l.say t j q 0))++(oR lb 8 [i6 st,i6 s.l.now,i6 ((L.gt j).pd+1),i6 0,.slice none 0 0] true::C))).Perm (pM (s.dR g' cap' vs' (s.l.say t j q 0))++(oR lb 8 [i6 st,i6 s.l.now,i6 ((L.gt j).pd+1),i6 0,.slice none 0 0] true::fR ⟨kN.g,0,none⟩ 1 kN.v (kN.o+kN.c) true::C))from by simpa using x))
 have u:pM {s with ea:=some ⟨g',0,none⟩,ec:=cap',vv:=vs',f:=upd s.f j kN,l:=(L.aS j ((L.gt j).turn L.now st)).say t j q 0}=pM (s.dR g' cap' vs' (s.l.say t j q 0)):=by
  unfold pM PS.dR LS.say LS.aS;simp only[e1,e2,F,D,A,z]
 rw[u,e1];exact p
theorem Pn(F:aC prog main (DX Ok) Ψ)(hB:HB B Ok){bb:aE}(a:bb.kind=.normal)(I:bb.fn=173){a2:Act}{B2:Nat}{f:Fb}(hg:sW y (s.l.gt j) 1000000000000 0)(DF:(s.l.gt j).st=0\/(s.l.gt j).st=2)(S2:St Ok B2 43 [(9,.bool (decide (bh b=3\/bh b=5))),(0,ptr lb),(1,ptr T),(2,.bool (decide (b.k≠1)))] (pM s++(mL lb (s.l.gt j) f++C)) 0 a2 w)(jQ:a2.defers=[])(fV:w.heap.size=B2)(h1:Has C (uj lb wi j s.k.J))(h2:Has C (zL T s.k.A t aR))(h3:Has C (oR lb 3 [i6 y.a,i6 y.b,i6 y.c,i6 y.d,i6 y.e] false))(hv:Vc Ok s.ea s.l.el s.ec)(S:qF Ok (s.l.gt j).la f)(gp:B<=w.heap.size)(hlen:s.l.el<1000000)(hc:(s.l.tk t).c=t)(hq:(s.l.tk t).q j=(s.l.gt j).pd)(hy:(1<=y.a/\y.a<=20)/\(1<=y.c/\y.c<=100)/\(1<=y.e/\y.e<=9))(K:BK Ok Ψ cf cs w s C lb j (s.l.count y t j b)):
 Ψ (G (bb.at a2 (pc prog 173 5 [] [])) (cf::cs)) w:=by
 have W5:=hg.pr;have JN:=hg.pd;have SN:(s.l.gt j).la.length<=20:=by rcases hg.st with ⟨_,z⟩|⟨z,_⟩|⟨_,z⟩<;>omega
 obtain⟨base,Qn,P⟩:∃base,Hs f (s.l.gt j).la.length=.slice base (s.l.gt j).la.length f.c/\((base=some ⟨f.g,f.o,none⟩/\f.s=true)\/base=none/\f.o=0/\f.c=0):=by
  cases H:f.s with
  |true=>exact⟨_,by unfold Hs;rw[ah H],.inl ⟨rfl,rfl⟩⟩
  |false=>
   obtain⟨z1,z2,z3⟩:=S.nil H;exact⟨none,by unfold Hs;rw[af (by rw[H];decide),z1,z3];rfl,.inr ⟨rfl,z2,z3⟩⟩
 simp only[mL,Qn]at S2;have hS:=S2.sat
 have Z3:∀ba,base=some ba->f.g<w.heap.size:=λba z=>by
  rcases P with ⟨_,z1⟩|⟨z1,_⟩
  .have h0:=(S.len z1)
   have:=(hS.mem (r:=fR ⟨f.g,0,none⟩ 1 f.v (f.o+f.c) true) (by simp)).val (0,0) ⟨by show 0<f.o+f.c;omega,aG⟩;exact au this
  .rw[z1]at z;cases z
 by_cases Z:bh b=3\/bh b=5
 .have Tg:s.l.count y t j b=s.l.aS j {s.l.gt j with pr:=if(s.l.gt j).st=2 then(s.l.gt j).pr-1 else(s.l.gt j).pr}:=by unfold LS.count;rw[af (by rw[hq];simp),ah Z]
  rw[Tg]at K;rw[show decide (bh b=3\/bh b=5)=true by simpa using Z]at S2;rcases DF with h0|h0
  .rw[af (by omega)]at K
   refine bA F hB a jQ S2 13 [7,0,0,1] [3,0] [] [] (λM=>M) 0 18 [true,false] [] [((s.l.gt j).st==2,false)] [] [] λa3 w3 S3 O gQ ji dX=>?_
   refine cV F S3 a I O [] (.tuple #[]) ?_;refine K s.ea s.ec s.vv f w3 ?_ hv (by rw[ug];exact S) (by omega);rw[ug];simp only[mL,Qn];exact S3.sat
  .rw[ah h0]at K
   have tZ:IntKind.wrap .i64 ((s.l.gt j).pr-1)=(s.l.gt j).pr-1:=aA (by omega) (by omega);refine bA F hB a jQ S2 22 [7,0,0,1,7,0,3,1,7,0,3,1] [3,2] [] [] (λM=>bu 7 (0,3) (i6 (IntKind.wrap .i64 ((s.l.gt j).pr-1))) (M)) 0 27 [true,true] [] [((s.l.gt j).st==2,true)] [] [] λa3 w3 S3 O gQ ji dX=>?_
   refine cV F S3 a I O [] (.tuple #[]) ?_;rw[tZ]at S3;refine K s.ea s.ec s.vv f w3 ?_ hv (by rw[ug];exact S) (by omega);rw[ug];simp only[mL,Qn];exact S3.sat.cast (by kernel_rfl)
 .rw[show decide (bh b=3\/bh b=5)=false by simpa using Z]at S2
  rw[qj hq Z]at K;refine aq F hB a jQ S2 12 [7,0,4,1] [1] [] [(28,.slice (some ⟨B2,0,none⟩) 1 1),(26,.slice base (List.length (s.l.gt j).la) f.c),(22,ptr lb),(0,ptr lb),(1,ptr T)] (λM=>bR (B2) [.bool (decide (b.k≠1))]::(M)) 1 17 [false] [] λa3 w3 S3 O gQ ji dX=>?_
  refine apB F hB a 26 28 29 9 0 (g:=f.g) (o:=f.o) (base:=base) (len:=(s.l.gt j).la.length) (cap:=f.c) (y:=decide (b.k≠1)) (v:=f.v) (by kernel_rfl) (by kernel_rfl) (by decide) rfl rfl (P.imp (λz=>z.1) id) rfl rfl (λba z=>⟨by have:=Z3 ba z;omega,?_⟩) ?_ (by omega) (by omega) (by omega) S3 λJ N v4 U a4 w4 h4 z1 z2 z3 z4 z5 Cf oD=>?_
  .rcases P with ⟨_,h⟩|⟨h,_⟩
   .exact S.ok h
   .rw[h]at z;cases z
  .rcases P with ⟨_,h⟩|⟨h,W,y3⟩
   .exact(S.len h).2
   .cases H:f.s with
    |true=>have:=(S.len H).2;omega
    |false=>rw[(S.nil H).1];exact iN _
  rw[show jY (pc prog 173 17 [false] [])=pc prog 173 18 [false] [] by kernel_rfl];obtain⟨d,Q⟩:∃d,d=(s.l.gt j).la++[decide (b.k≠1)]:=⟨_,rfl⟩;have hll:(s.l.gt j).la.length+1=d.length:=by rw[Q];simp
  have LF:∀i,i<d.length->(v4 (N+i)).getD 0 undef=.bool (d.getD i false):=λi hi=>by
   by_cases e:i=(s.l.gt j).la.length
   .rw[e,z2,Q];simp[List.getD]
   .rw[z1 i (by omega),S.val i (by omega),Q]
    simp[List.getD,oZ (show i<(s.l.gt j).la.length by omega)]
  have Xe:∀(ad:Addr)(wr:Bool),ad.block=J->Ok ad wr:=by
   rcases z3 with z|z
   .rcases P with ⟨y0,h⟩|⟨h,_⟩
    .rw[y0]at z;cases z;exact S.ok h
    .rw[h]at z;cases z
   .exact λad wr hh=>hB ad wr (by omega)
  have S4:St Ok w4.heap.size 43 _ _ 0 a4 w4:=⟨Cf,h4.tail (M:=pM s++(oR lb 8 [i6 (s.l.gt j).st,i6 (s.l.gt j).si,i6 (s.l.gt j).pd,i6 (s.l.gt j).pr,.slice base (s.l.gt j).la.length f.c] true::fR ⟨J,0,none⟩ 1 v4 (N+U) true::C)),rfl⟩;replace S4:=S4.dD [(29,.slice (some ⟨J,N,none⟩) ((s.l.gt j).la.length+1) U),(22,ptr lb),(0,ptr lb),(1,ptr T)] rfl;rw[hll]at S4 z5;replace oD:=oD.trans O;generalize jP:w4.heap.size=B4 at S4;unfold LS.qe at K;simp only[ug]at K;have fbo:∀(l:fL)(o' c':Nat),0<l.length->l.length<=c'->(∀i,i<l.length->(v4 (o'+i)).getD 0 undef=.bool (l.getD i false))->qF Ok l ⟨true,J,o',c',v4⟩:=λl o' c' h W y3=>⟨λz=>(by cases z),λ_=>⟨h,W⟩,λ_=>Xe,y3⟩
  rcases DF with h0|h0
  .have Vj:(s.l.gt j).keep y (decide (b.k≠1))=if(d.length:Int)>y.a then d.tail else d:=by
    unfold Gt.keep;rw[<-Q,show(d.length:Int)=((s.l.gt j).la.length:Int)+1 by omega]
    by_cases e:((s.l.gt j).la.length:Int)+1>y.a
    .rw[ah ⟨h0,e⟩,ah e]
    .rw[af (λz=>e z.2),af e]
   have hle:((s.l.gt j).la.length:Int)<=y.a:=by rcases hg.st with ⟨_,z⟩|⟨z,_⟩|⟨z,_⟩<;>omega
   refine bA F hB a oD S4 16 [7,0,4,1,7,0,0,1] [2] [] [(38,ptr T),(37,ptr lb)] (λM=>bu 7 (0,4) (.slice (some (Addr.mk J N none)) (List.length d) U) (M)) 0 34 [false,true] [] [((s.l.gt j).st==0,true)] [] [] λa5 w5 S5 nC mz kT jv=>?_
   refine bK F a nC S5 39 176 #[ptr lb,ptr T] λEB p=>?_
   have h6:Sat Ok w5 (pM s++(oR lb 8 [i6 (s.l.gt j).st,i6 (s.l.gt j).si,i6 (s.l.gt j).pd,i6 (s.l.gt j).pr,.slice (some ⟨J,N,none⟩) d.length U] true::fR ⟨J,0,none⟩ 1 v4 (N+U) true::C)):=S5.sat.cast (by kernel_rfl)
   have hkl:0<((s.l.gt j).keep y (decide (b.k≠1))).length:=by
    rw[Vj];split
    .rw[List.length_tail];omega
    .omega
   refine Gs F hB h6 h1 h2 h3 hv (by omega) hlen hc (by omega) (by omega) z5 (by omega) ⟨hy.1,hy.2.1⟩ LF Vj (λY o' c' w6 h W y3 y4 y5=>p _ _ _ y4 λa6 B6 S6 A oS=>?_) (λk g' cap' vs' w6 h W y3=>p _ _ _ h λa6 B6 S6 A oS=>?_)
   .rw[af (λz=>by rcases z.1 with u|u;(exact Y ⟨u.2,z.2⟩);omega),af (λz=>by omega)]at K
    refine aq F hB a A S6 1 [] [] [] [] (λM=>M) 0 36 [false,true] [] λa7 w7 D x oA oT tu=>?_
    refine cV F D a I x [] (.tuple #[]) ?_;refine K s.ea s.ec s.vv ⟨true,J,o',c',v4⟩ w7 ?_ hv (by rw[ug];exact fbo _ o' c' hkl W y3) (by omega);rw[ug];simp only[mL,Hs,if_true];exact D.sat
   .rw[ah ⟨.inl ⟨h0,k.1⟩,k.2⟩]at K
    refine aq F hB a A S6 1 [] [] [] [] (λM=>M) 0 36 [false,true] [] λa7 w7 D x oA oT tu=>?_
    refine cV F D a I x [] (.tuple #[]) ?_;have K':=BK.turn (Ok:=Ok) (Ψ:=Ψ) (cf:=cf) (cs:=cs) (w:=w) (s:=s) (C:=C) (lb:=lb) (j:=j) (t:=t) (L:=s.l.aS j {s.l.gt j with la:=(s.l.gt j).keep y (decide (b.k≠1))}) (g':=g') (cap':=cap') (vs':=vs') (w':=w7) (st:=1) (q:=9) (by simp only[ug];exact K) ⟨rfl,rfl,rfl,rfl,rfl,rfl⟩;simp only[ug]at K';exact K' (D.sat.sub (nR (.cons_cons _ (.refl _)) _)) W (by omega)
  .have Vj:(s.l.gt j).keep y (decide (b.k≠1))=d:=by
    unfold Gt.keep;rw[af (λz=>by omega),Q]
   have hle:((s.l.gt j).la.length:Int)<y.e:=by rcases hg.st with ⟨z,_⟩|⟨z,_⟩|⟨_,z⟩<;>omega
   rw[Vj]at K;refine bA F hB a oD S4 16 [7,0,4,1,7,0,0,1] [0] [] [(41,ptr T),(40,ptr lb)] (λM=>bu 7 (0,4) (.slice (some (Addr.mk J N none)) (List.length d) U) (M)) 0 34 [false,false] [] [((s.l.gt j).st==0,false)] [] [] λa5 w5 S5 nC mz kT jv=>?_
   refine bK F a nC S5 42 177 #[ptr lb,ptr T] λEB p=>?_
   have h6:Sat Ok w5 (pM s++(oR lb 8 [i6 (s.l.gt j).st,i6 (s.l.gt j).si,i6 (s.l.gt j).pd,i6 (s.l.gt j).pr,.slice (some ⟨J,N,none⟩) d.length U] true::fR ⟨J,0,none⟩ 1 v4 (N+U) true::C)):=S5.sat.cast (by kernel_rfl);refine Gv F hB h6 h1 h2 h3 hv (by omega) hlen hc (by omega) z5 (by omega) hy.2 LF (λY w6 y4 y5=>p _ _ _ y4 λa6 B6 S6 A oS=>?_) (λk g' cap' vs' w6 h W y3=>p _ _ _ h λa6 B6 S6 A oS=>?_)
   .rw[af (λz=>by rcases z.1 with u|u;(omega);(exact Y u.2)),af (λz=>Y z.2)]at K
    refine aq F hB a A S6 1 [] [] [] [] (λM=>M) 0 36 [false,false] [] λa7 w7 D x oA oT tu=>?_
    refine cV F D a I x [] (.tuple #[]) ?_;refine K s.ea s.ec s.vv ⟨true,J,N,U,v4⟩ w7 ?_ hv (by rw[ug];exact fbo d N U (by omega) z5 LF) (by omega);rw[ug];simp only[mL,Hs,if_true];exact D.sat
   .refine aq F hB a A S6 1 [] [] [] [] (λM=>M) 0 36 [false,false] [] λa7 w7 D x oA oT tu=>?_
    refine cV F D a I x [] (.tuple #[]) ?_;cases X:over y d with
    |true=>
     rw[X,ah ⟨.inr ⟨h0,k⟩,rfl⟩]at K;rw[X]at D;have K':=BK.turn (Ok:=Ok) (Ψ:=Ψ) (cf:=cf) (cs:=cs) (w:=w) (s:=s) (C:=C) (lb:=lb) (j:=j) (t:=t) (L:=s.l.aS j {s.l.gt j with la:=d}) (g':=g') (cap':=cap') (vs':=vs') (w':=w7) (st:=1) (q:=9) (by simp only[ug];exact K) ⟨rfl,rfl,rfl,rfl,rfl,rfl⟩;simp only[ug]at K';exact K' D.sat W (by omega)
    |false=>
     rw[X,af (λz=>by cases z.2),ah ⟨h0,k⟩]at K;rw[X]at D;have K':=BK.turn (Ok:=Ok) (Ψ:=Ψ) (cf:=cf) (cs:=cs) (w:=w) (s:=s) (C:=C) (lb:=lb) (j:=j) (t:=t) (L:=s.l.aS j {s.l.gt j with la:=d}) (g':=g') (cap':=cap') (vs':=vs') (w':=w7) (st:=0) (q:=11) (by simp only[ug];exact K) ⟨rfl,rfl,rfl,rfl,rfl,rfl⟩;simp only[ug]at K';exact K' D.sat W (by omega)
theorem HQ(F:aC prog main (DX Ok) Ψ)(hB:HB B Ok){e:ay}{f:Fb}(hg:sW y (s.l.gt j) 1000000000000 0)(X:(s.l.gt j).st=0\/(s.l.gt j).st=2)(hS:Sat Ok w (pM s++(mL lb (s.l.gt j) f++C)))(h1:Has C (uj lb wi j s.k.J))(h2:Has C (zL T s.k.A t aR))(h3:Has C (oR lb 3 [i6 y.a,i6 y.b,i6 y.c,i6 y.d,i6 y.e] false))(hv:Vc Ok s.ea s.l.el s.ec)(hf:qF Ok (s.l.gt j).la f)(gp:B<=w.heap.size)(O:s.l.el<1000000)(hc:(s.l.tk t).c=t)(hq:(s.l.tk t).q j=(s.l.gt j).pd)(hy:(1<=y.a/\y.a<=20)/\(1<=y.c/\y.c<=100)/\(1<=y.e/\y.e<=9))(Y:Is b)(he:(b.k≠2/\e=.nilIface)\/(b.k=2/\lz C e b.ch))(K:BK Ok Ψ cf cs w s C lb j (s.l.count y t j b)):
 Ψ (G (Frame.enter prog 173 #[ptr lb,ptr T,.bool (decide (b.k≠1)),e] .normal) (cf::cs)) w:=by
 have i:(b.k≠2/\e=.nilIface)\/(b.k=2/\lz (pM s++(mL lb (s.l.gt j) f++C)) e b.ch):=he.imp id λz=>⟨z.1,z.2.up λr hr=>(hr.app _).app _⟩
 generalize hM:pM s++(mL lb (s.l.gt j) f++C)=M at*
 have fin:∀{bb:aE},bb.kind=.normal->bb.fn=173->∀A x I,St Ok I 43 [(9,.bool (decide (bh b=3\/bh b=5))),(0,ptr lb),(1,ptr T),(2,.bool (decide (b.k≠1)))] M 0 A x->A.defers=[]->x.heap.size=I->w.heap.size<=x.heap.size->Ψ (G (bb.at A (pc prog 173 5 [] [])) (cf::cs)) x:=λa u A x I J k d N=>by
  rw[<-hM]at J;exact Pn F hB a u hg X J k d h1 h2 h3 hv hf (by omega) O hc hq hy λea ec vv f' w' z1 z2 z3 z4=>K ea ec vv f' w' z1 z2 z3 (by omega)
 rcases i with ⟨hk,rfl⟩|⟨hk,i⟩
 .refine dg f173 func173 _ rfl 43 (by kernel_rfl) hS λbb a0 B1 hn a u H S0 U=>?_
  refine aq F hB a H S0 4 [] [] [] [(8,.nilIface),(0,ptr lb),(1,ptr T),(2,.bool (decide (b.k≠1)))] (λM=>M) 0 4 [] [] λa1 w1 Q D S W dS=>?_
  refine bK F a D Q 9 175 #[.nilIface] λgJ p=>?_
  refine uL F hB Y (.inl ⟨hk,rfl⟩) Q.sat (by omega) λx Z N=>p _ _ _ Z λA I J k d=>?_
  exact fin a u A x I (J.dD _ rfl) k d (by omega)
 .obtain⟨q,rfl⟩:∃q,e=.iface 168 (ptr q):=by
   cases P:b.ch with
   |nil=>
    rcases Y.2.2 with ⟨z,_⟩|⟨_,_,z⟩|⟨z,_⟩
    .omega
    .exact absurd P z
    .omega
   |cons y ch=>rw[P]at i;obtain⟨q,_,h,_⟩:=i;exact⟨q,h⟩
  refine dg f173 func173 _ rfl 43 (by kernel_rfl) hS λbb a0 B1 hn a u H S0 U=>?_
  refine aq F hB a H S0 4 [] [] [] [(8,.iface 168 (ptr q)),(0,ptr lb),(1,ptr T),(2,.bool (decide (b.k≠1)))] (λM=>M) 0 4 [] [] λa1 w1 Q D S W dS=>?_
  refine bK F a D Q 9 175 #[.iface 168 (ptr q)] λgJ p=>?_
  refine uL F hB Y (.inr ⟨hk,i⟩) Q.sat (by omega) λx Z N=>p _ _ _ Z λA I J k d=>?_
  exact fin a u A x I (J.dD _ rfl) k d (by omega)
theorem Sat.Wa{P:aX}{r d:aJ}(h:Sat Ok w (P++(r::d::C))):Sat Ok w (P++(r::fR ⟨kN.g,0,none⟩ 1 kN.v (kN.o+kN.c) true::C)):=by
 have f:Sat Ok w (fR ⟨kN.g,0,none⟩ 1 kN.v (kN.o+kN.c) true::((P++[r])++C)):=Sat.ff (h.sub (by rw[fM];exact nR (.cons_cons _ (.cons _ (.refl _))) _)) rfl rfl;have a:=Sat.back (A:=P++[r]) f;rw[fM]at a;exact a
theorem NZ(F:aC prog main (DX Ok) Ψ)(hB:HB B Ok){f:Fb}(I:sW y (s.l.gt j) 1000000000000 0)(D:Sat Ok w (pM s++(mL lb (s.l.gt j) f++C)))(h1:Has C (uj lb wi j s.k.J))(h2:Has C (zL T s.k.A t aR))(Z:Has C (oR lb 3 [i6 y.a,i6 y.b,i6 y.c,i6 y.d,i6 y.e] false))(N:Vc Ok s.ea s.l.el s.ec)(Y:qF Ok (s.l.gt j).la f)(gp:B<=w.heap.size)(x:s.l.el<1000000)(hc:(s.l.tk t).c=t)(LL:0<=s.l.now/\s.l.now<1000000000000)(hye:1<=y.e/\y.e<=9)(W:((s.l.gt j).st=1/\s.l.now-(s.l.gt j).si<y.d)\/((s.l.gt j).st=2/\(s.l.gt j).pr=y.e)->∀w',Sat Ok w' (pM s++(mL lb (s.l.gt j) f++C))->w.heap.size<=w'.heap.size->Ψ (G (cf.finish (.bool false)) cs) w')(K2:¬(((s.l.gt j).st=1/\s.l.now-(s.l.gt j).si<y.d)\/((s.l.gt j).st=2/\(s.l.gt j).pr=y.e))->∀ea ec vv f' w',Sat Ok w' (pM {s with ea:=ea,ec:=ec,vv:=vv,f:=upd s.f j f',l:=(s.l.aM t j).cz j}++(mL lb (((s.l.aM t j).cz j).gt j) f'++C))->Vc Ok ea ((s.l.aM t j).cz j).el ec->qF Ok (((s.l.aM t j).cz j).gt j).la f'->w.heap.size<=w'.heap.size->Ψ (G (cf.finish (.bool true)) cs) w'):
 Ψ (G (Frame.enter prog 171 #[ptr lb,ptr T] .normal) (cf::cs)) w:=by
 have ZR:=I.si;have JN:=I.pd;have W5:=I.pr;have tZ:IntKind.wrap .i64 (s.l.now-(s.l.gt j).si)=s.l.now-(s.l.gt j).si:=aA (by omega) (by omega);have J:IntKind.wrap .i64 ((s.l.gt j).pr+1)=(s.l.gt j).pr+1:=aA (by omega) (by omega);have O:(s.l.gt j).st=0\/(s.l.gt j).st=1\/(s.l.gt j).st=2:=by rcases I.st with ⟨z,_⟩|⟨z,_⟩|⟨z,_⟩<;>omega
 have Yh:=D;obtain⟨U,r⟩:∃U,U=Hs f (s.l.gt j).la.length:=⟨_,rfl⟩;simp only[mL,<-r]at D W;replace D:=(D.get ((h2.cons.cons).app (pM s))).get ((Z.cons.cons.app (pM s)).cons);refine dg f171 func171 _ rfl 51 (by kernel_rfl) D λbb a0 B1 hn a h d H iI=>?_
 rcases O with u|u|u
 .have e1:s.l.aM t j=s.l:=by unfold LS.aM;rw[af (by omega)]
  have e2:s.l.cz j=s.l:=by unfold LS.cz;rw[af (by omega)]
  rw[e1,e2]at K2;refine qC F hB a h d H 39 [9,0,0,1,9,0,0,1] [0,0,0,0,0,0,0,0,0,0,0,0,1,0,0] [17] 4 (.bool true) (λM=>M) 0 39 [false,false,false] [17] [((s.l.gt j).st==2,false),((s.l.gt j).st==1,false),((s.l.gt j).st==1,false),((s.l.gt j).st==1,false),((s.l.gt j).st==1,false),((s.l.gt j).st==1,false),((s.l.gt j).st==1,false),((s.l.gt j).st==1,false),((s.l.gt j).st==1,false),((s.l.gt j).st==1,false),((s.l.gt j).st==1,false),((s.l.gt j).st==1,false),((s.l.gt j).st==1,false),((s.l.gt j).st==1,false)] [] [] λk i p q=>?_
  refine K2 (λz=>by omega) s.ea s.ec s.vv f k ?_ N Y (by omega);simp only[mL,<-r];exact i.sat.tail.tail
 .by_cases hd:s.l.now-(s.l.gt j).si<y.d
  .refine qC F hB a h d H 31 [9,0,0,1,1,0,0,1,2,0,0,1,9,0,1,1,0,0,3,1,9,0,0,1] [2,2,2,2,2,2,2,2,2,2,2,2,0,2] [17] 4 (.bool false) (λM=>M) 0 31 [false,true] [17] [((s.l.gt j).st==1,true),(decide (IntKind.wrap .i64 (s.l.now-(s.l.gt j).si)≥y.d),false),((s.l.gt j).st==1,true),((s.l.gt j).st==1,true),((s.l.gt j).st==1,true),((s.l.gt j).st==1,true),((s.l.gt j).st==1,true),((s.l.gt j).st==1,true),((s.l.gt j).st==1,true),((s.l.gt j).st==1,true),((s.l.gt j).st==1,true),((s.l.gt j).st==1,true),((s.l.gt j).st==1,true),((s.l.gt j).st==1,true)] [] [] λk i p q=>?_
   exact W (.inl ⟨u,hd⟩) k i.sat.tail.tail (by omega)
  .have e1:s.l.aM t j=(s.l.aS j ((s.l.gt j).turn s.l.now 2)).say t j 10 0:=by unfold LS.aM;rw[ah u]
   have e3:((s.l.aM t j).gt j)=(s.l.gt j).turn s.l.now 2:=by rw[e1];exact ug ..
   have e4:((s.l.aM t j).gt j).st=2:=by rw[e3];rfl
   have e2:(s.l.aM t j).cz j=(s.l.aM t j).aS j {(s.l.aM t j).gt j with pr:=((s.l.aM t j).gt j).pr+1}:=by unfold LS.cz;rw[ah e4]
   rw[e2,ug,e3,e1]at K2;refine bA F hB a d H 14 [9,0,0,1,1,0,0,1,2,0,0,1,9,0,1,1,0,0,3,1] [2,2,2,2,2,2,2,2,2,2,2,2,2] [17] [(25,ptr T),(24,ptr lb),(0,ptr lb)] (λM=>M) 0 14 [true] [17] [(decide (IntKind.wrap .i64 (s.l.now-(s.l.gt j).si)≥y.d),true),((s.l.gt j).st==1,true),((s.l.gt j).st==1,true),((s.l.gt j).st==1,true),((s.l.gt j).st==1,true),((s.l.gt j).st==1,true),((s.l.gt j).st==1,true),((s.l.gt j).st==1,true),((s.l.gt j).st==1,true),((s.l.gt j).st==1,true),((s.l.gt j).st==1,true),((s.l.gt j).st==1,true),((s.l.gt j).st==1,true)] [] [] λa1 k i Q p q dS=>?_
   refine bK F a Q i 26 174 #[ptr lb,i6 2,ptr T,i6 10] λgJ A=>?_
   refine oL F hB i.sat.tail.tail h1.cons h2.cons N (by omega) x hc (by omega) λg' cap' vs' w2 h5 K je=>A _ _ _ (h5.get (Z.cons.cons.app (pM _))) λa2 B2 S2 P fV=>?_
   refine qC F hB a h P S2 44 [8,0,0,1,8,0,3,1,0,0,4,1,8,0,3,1,8,0,3,1] [1,3,0] [8] 4 (.bool true) (λM=>bu 8 (0,3) (i6 1) (M)) 0 59 [true,false,true,false] [17,8] [(0==y.e,false)] [] [] λX S3 gQ ji=>?_
   refine K2 (λz=>by omega) (some ⟨g',0,none⟩) cap' vs' kN X ?_ K AL (by omega);have S:Sat Ok X (oR lb 3 [i6 y.a,i6 y.b,i6 y.c,i6 y.d,i6 y.e] false::(pM (s.dR g' cap' vs' (s.l.say t j 10 0))++(oR lb 8 [i6 2,i6 s.l.now,i6 ((s.l.gt j).pd+1),i6 1,.slice none 0 0] true::fR ⟨f.g,0,none⟩ 1 f.v (f.o+f.c) true::C))):=S3.sat.cast (by kernel_rfl);exact Sat.Wa S.tail
 .have e1:s.l.aM t j=s.l:=by unfold LS.aM;rw[af (by omega)]
  have e2:s.l.cz j=s.l.aS j {s.l.gt j with pr:=(s.l.gt j).pr+1}:=by unfold LS.cz;rw[ah u]
  rw[e1,e2,ug]at K2
  by_cases hp:(s.l.gt j).pr=y.e
  .refine qC F hB a h d H 43 [9,0,0,1,9,0,0,1,9,0,3,1,0,0,4,1] [0,0,0,0,0,0,0,0,0,0,0,0,1,0,2,2] [17,8] 4 (.bool false) (λM=>M) 0 43 [false,false,true,true] [17,8] [((s.l.gt j).pr==y.e,true),((s.l.gt j).st==2,true),((s.l.gt j).st==1,false),((s.l.gt j).st==1,false),((s.l.gt j).st==1,false),((s.l.gt j).st==1,false),((s.l.gt j).st==1,false),((s.l.gt j).st==1,false),((s.l.gt j).st==1,false),((s.l.gt j).st==1,false),((s.l.gt j).st==1,false),((s.l.gt j).st==1,false),((s.l.gt j).st==1,false),((s.l.gt j).st==1,false),((s.l.gt j).st==1,false)] [] [] λk i p q=>?_
   exact W (.inr ⟨u,hp⟩) k i.sat.tail.tail (by omega)
  .refine qC F hB a h d H 55 [9,0,0,1,9,0,0,1,9,0,3,1,0,0,4,1,9,0,3,1,9,0,3,1] [0,0,0,0,0,0,0,0,0,0,0,0,1,0,2,0] [17,8] 4 (.bool true) (λM=>bu 9 (0,3) (i6 (IntKind.wrap .i64 ((s.l.gt j).pr+1))) (M)) 0 55 [false,false,true,false] [17,8] [((s.l.gt j).pr==y.e,false),((s.l.gt j).st==2,true),((s.l.gt j).st==1,false),((s.l.gt j).st==1,false),((s.l.gt j).st==1,false),((s.l.gt j).st==1,false),((s.l.gt j).st==1,false),((s.l.gt j).st==1,false),((s.l.gt j).st==1,false),((s.l.gt j).st==1,false),((s.l.gt j).st==1,false),((s.l.gt j).st==1,false),((s.l.gt j).st==1,false),((s.l.gt j).st==1,false),((s.l.gt j).st==1,false)] [] [] λk i p q=>?_
   rw[J]at i;refine K2 (λz=>by omega) s.ea s.ec s.vv f k ?_ N Y (by omega);simp only[mL,<-r];have S:Sat Ok k (oR lb 3 [i6 y.a,i6 y.b,i6 y.c,i6 y.d,i6 y.e] false::zL T s.k.A t aR::(pM s++(oR lb 8 [i6 (s.l.gt j).st,i6 (s.l.gt j).si,i6 (s.l.gt j).pd,i6 ((s.l.gt j).pr+1),U] true::fR ⟨f.g,0,none⟩ 1 f.v (f.o+f.c) true::C))):=i.sat.cast (by kernel_rfl);exact S.tail.tail
structure LG(t j:Nat)(L L':LS):Prop where
 al:L'.al=L.al
 ag:L'.ag=L.ag
 wl:L'.wl=L.wl
 wt:L'.wt=L.wt
 now:L'.now=L.now
 tl:L'.tl=L.tl
 us:L'.us=L.us
 ou:L'.ou=L.ou
 tk:∀i,i≠t->L'.tk i=L.tk i
 tc:(L'.tk t).c=(L.tk t).c
 ta:(L'.tk t).a=(L.tk t).a
 tq:∀i,i≠j->(L'.tk t).q i=(L.tk t).q i
 gt:∀i,i≠j->L'.gt i=L.gt i
theorem LG.cA{L:LS}:LG t j L L:=⟨rfl,rfl,rfl,rfl,rfl,rfl,rfl,rfl,λ_ _=>rfl,rfl,rfl,λ_ _=>rfl,λ_ _=>rfl⟩
theorem LG.trans{t j:Nat}{L f L2:LS}(h:LG t j L f)(a:LG t j f L2):LG t j L L2:=⟨a.al.trans h.al,a.ag.trans h.ag,a.wl.trans h.wl,a.wt.trans h.wt,a.now.trans h.now,a.tl.trans h.tl,a.us.trans h.us,a.ou.trans h.ou,λi d=>(a.tk i d).trans (h.tk i d),a.tc.trans h.tc,a.ta.trans h.ta,λi d=>(a.tq i d).trans (h.tq i d),λi d=>(a.gt i d).trans (h.gt i d)⟩
theorem LG.say{t j:Nat}{L:LS}(a b c:Int):LG t j L (L.say t a b c):=⟨rfl,rfl,rfl,rfl,rfl,rfl,rfl,rfl,λ_ _=>rfl,rfl,rfl,λ_ _=>rfl,λ_ _=>rfl⟩
theorem LG.aS{t j:Nat}{L:LS}(g:Gt):LG t j L (L.aS j g):=⟨rfl,rfl,rfl,rfl,rfl,rfl,rfl,rfl,λ_ _=>rfl,rfl,rfl,λ_ _=>rfl,λi a=>by simp[LS.aS,upd,a]⟩
theorem LG.mark{t j:Nat}{L:LS}:LG t j L (L.mark t j):=⟨rfl,rfl,rfl,rfl,rfl,rfl,rfl,rfl,λi a=>by simp[LS.mark,upd,a],by simp[LS.mark,upd],by simp[LS.mark,upd],λi a=>by simp[LS.mark,upd,a],λ_ _=>rfl⟩
theorem LG.U5{L:LS}:LG t j L ((L.aM t j).cz j):=by
 have a:LG t j L (L.aM t j):=by
  unfold LS.aM;split
  .exact(LG.aS _).trans (LG.say ..)
  .exact LG.cA
 refine a.trans ?_;unfold LS.cz;split
 .exact LG.aS _
 .exact LG.cA
theorem LG.count{t j:Nat}{L:LS}(y:ko)(b:Bk):LG t j L (L.count y t j b):=by
 unfold LS.count
 split
 .exact LG.cA
 .split
  .exact LG.aS _
  .dsimp only
   split
   .exact(LG.aS _).trans (LG.say ..)
   .split
    .exact(LG.aS _).trans (LG.say ..)
    .exact LG.aS _
theorem BN(A G R O:aX)(a:aJ):(A++(a::(R++(G++O)))).Perm (A++(G++(a::(R++O)))):=by
 refine kv A ?_;have h:=iP (a::R) G O
 simpa using h
theorem Cn.open{p:γ}{v:ay}(C:Cn E kk t p s w v R)(hj:j<kk.V.nl):Sat (E.Ok p) w (pM s++(gR (kk.V.ly j) (kk.lb j) (s.l.gt j) (s.f j)++(fI (kk.T t) v false::(R++(gX s j++E.O p))))):=by
 have hk:=C.hk;have a:=qX s (k:=j) (by rw[hk];exact hj);rw[hk]at a;refine(C.sat.perm ?_).perm (BN ..);refine kv _ (List.Perm.cons _ (kv _ ?_));rw[<-fM];exact a.append_right _
theorem Cn.shut{p:γ}{v:ay}(C:Cn E kk t p s w v R)(hj:j<kk.V.nl){ea:eN}{ec:Nat}{vv:fH}{f':Fb}{L':LS}(d:LG t j s.l L')(h:Sat (E.Ok p) w' (pM {s with ea:=ea,ec:=ec,vv:=vv,f:=upd s.f j f',l:=L'}++(gR (kk.V.ly j) (kk.lb j) (L'.gt j) f'++(fI (kk.T t) v false::(R++(gX s j++E.O p))))))(K:Vc (E.Ok p) ea L'.el ec)(H:(kk.V.ly j).k=4->qF (E.Ok p) (L'.gt j).la f')(J:w.heap.size<=w'.heap.size):Cn E kk t p {s with ea:=ea,ec:=ec,vv:=vv,f:=upd s.f j f',l:=L'} w' v R:=by
 have hk:=C.hk;obtain⟨u,a⟩:∃u:PS,u={s with ea:=ea,ec:=ec,vv:=vv,f:=upd s.f j f',l:=L'}:=⟨_,rfl⟩;have r:u.k=kk:=by rw[a];exact hk
 have A:u.f j=f':=by rw[a];simp[upd]
 have G:gX u j=gX s j:=TM (by rw[a]) (λi z=>by rw[a];exact d.gt i z) (λi z=>by rw[a];simp[upd,z]);have hl:u.l=L':=by rw[a]
 have D:=qX u (k:=j) (by rw[r];exact hj);rw[r,A,hl,G]at D;have N:∀i,ia u i=ia s i:=λi=>by rw[a];unfold ia;simp only[d.ag]
 have I:bQ u=bQ s:=by unfold bQ;rw[show u.q=s.q by rw[a]];exact zA λi _=>N i
 rw[<-a]at h ⊢;refine⟨(h.perm (BN ..).symm).perm ?_,⟨by rw[a];exact K,by rw[I,a];exact C.pv.en,by rw[a];exact C.pv.eo,λk F x=>?_⟩,?_,C.fl,C.fJ,aT C.bd J,C.gu.trans (by rw[a];exact⟨rfl,rfl,rfl,d.al,d.ag,d.wl,d.wt,d.now,d.tl,d.tk,λi _=>by rw[d.us],λi _=>⟨by rw[d.ou],rfl⟩⟩),r,by rw[a];exact C.ql⟩
 .refine kv _ (List.Perm.cons _ (kv _ ?_))
  rw[<-fM];exact(D.append_right _).symm
 .by_cases e:k=j
  .subst e;rw[A,hl];exact H (by rw[<-r];exact x)
  .have:=C.pv.fb k (by rw[hk,<-r];exact F) (by rw[hk,<-r];exact x)
   rw[hl,d.gt k e];rw[show u.f k=s.f k by rw[a];simp[upd,e]];exact this
 .have q:=C.qi
  rw[a];exact⟨λi z=>by simp only[d.al,d.ag];exact q.lt i z,λi D O=>q.all i (by simpa only[d.al]using D) (by simpa only[d.ag]using O),by simp only[d.ag];exact q.Bw,by first|exact q.ws|(have:=q.ws;simpa only[d.ag,d.al,d.wl,d.wt,d.now]using this)⟩
theorem Hp{L:LS}(hj:j<V.nl)(hk:(V.ly j).k=3)(h:Fin V Lf m (some (t,j,none)) L):∃d,m=d+1/\xg V t L/\
 ((L.gt j).sm=true/\(L.gt j).nx-L.now>((V.ly j).b-1)*(V.ly j).a->Fin V Lf d (some (t,j,some (eB 3 j 0))) (L.say t j 7 0))/\
 (¬((L.gt j).sm=true/\(L.gt j).nx-L.now>((V.ly j).b-1)*(V.ly j).a)->Fin V Lf d (some (t,j+1,none)) ((L.aS j {L.gt j with sm:=true,nx:=(if(L.gt j).sm=false\/(L.gt j).nx<L.now then L.now else(L.gt j).nx)+(V.ly j).a}).say t j 6 0)):=by
 cases m with
 |zero=>exact h.elim
 |succ m=>
  obtain⟨f,k,i,a⟩:=h;have e:(j=V.nl)=False:=by simp;omega
  refine⟨m,rfl,f,λhc=>?_,λhc=>?_⟩
  .simp only[LS.step,e,if_false,hk,af (show¬(3:Int)=1 by decide),if_true,LS.jc,LS.tQ]at a
   rw[ah hc]at a;exact a
  .simp only[LS.step,e,if_false,hk,af (show¬(3:Int)=1 by decide),if_true,LS.jc,LS.tQ]at a
   rw[af hc]at a;exact a
theorem DY{L:LS}(hk:(V.ly j).k=3)(h:Fin V Lf m (some (t,j+1,some b)) L):∃a,m=a+1/\xg V t L/\Is b/\Fin V Lf a (some (t,j,some b)) L:=by
 cases m with
 |zero=>exact h.elim
 |succ m=>
  obtain⟨i,k,f,d⟩:=h;have e:(j+1=0)=False:=by simp
  simp only[LS.step,e,if_false,fY,hk,af (show¬(3:Int)=1 by decide),af (show¬(3:Int)=4 by decide),af (show¬((3:Int)=2/\b.k=3) by omega)]at d;exact⟨m,rfl,i,(f b rfl).1,d⟩
theorem xX(W:l7 E kk Lf t){p:γ}{v:ay}(C:Cn E kk t p s w v R)(hj:j<kk.V.nl)(J:xg kk.V t s.l){c:aE}(K:∀I w' q,Cn E kk t p I w' v (oR q 0 [i6 3,i6 j,i6 0,.nilIface] false::R)->I.l=s.l.say t j 7 0->w.heap.size<=w'.heap.size->E.Ψ p (G (c.finish (.tuple #[i6 0,.iface 168 (ptr q)])) cs) w'):
 E.Ψ p (G (Frame.enter prog 168 #[ptr (kk.lb j),ptr (kk.T t)] .normal) (c::cs)) w:=by
 have F:=W.f p;have hB:=W.hB p;have wY:=C.bd;have hS:=C.sat;have f:=C.fJ.lay j hj;refine dg f168 func168 _ rfl 13 (by kernel_rfl) hS λbb a0 B1 hn a H D S0 Z=>?_
 refine aq F hB a D S0 9 [] [] [] [(7,ptr (kk.T t)),(6,ptr (kk.lb j)),(0,ptr (kk.lb j))] (λM=>M) 0 9 [] [] λa1 w1 Q z Y jA dS=>?_
 refine bK F a z Q 8 149 #[ptr (kk.lb j),ptr (kk.T t),i6 7,i6 0] λgJ h=>?_
 refine lH W {C with sat:=Q.sat,bd:=by omega} J.el J.tc f λk w2 d e2 je=>h _ _ _ (d.sat.get ((f.pre _).cons.app (pM k))) λa2 i P x X=>?_
 have N:=d.bd;obtain⟨ty,r,_⟩:=su W.V hj;rw[r]at P;refine aq F hB a x P 43 [0,0,1,1] [] [] [(5,.iface 168 (ptr i)),(4,i6 0)] (λM=>bR (i) [i6 3,i6 j,i6 0,.nilIface]::(M)) 1 20 [] [] λa3 S O u U ji dX=>?_
 refine cV F O a H u [] (.tuple #[i6 0,.iface 168 (ptr i)]) ?_;exact K k S i ⟨((Sat.D6 (A:=[oR i 0 [i6 3,i6 j,i6 0,.nilIface] false]) O.sat.fix).perm (gO (A:=pM k))),d.pv,d.qi,d.fl.cons rfl,d.fJ.cons,by omega,d.gu,d.hk,d.ql⟩ e2 (by omega)
theorem Ny(W:l7 E kk Lf t)(hj:j<kk.V.nl)(hk:(kk.V.ly j).k=3)(IH:eM E kk Lf t (j+1)):eM E kk Lf t j:=by
 intro m p s w v R c cs C hf JV K;rw[show fZ kk.V j=167 by unfold fZ;rw[af (by omega),af (by rw[hk];decide),ah hk]];have F:=W.f p;have hB:=W.hB p;have wY:=C.bd;obtain⟨m0,rfl,hs,qg,XK⟩:=Hp hj hk hf;have hg:=hs.gt j hj (by omega);have hV:=W.V.ra j hj hk;have LL:=hs.now;have ZU:=hg.nx;have SK:0<=((kk.V.ly j).b-1)*(kk.V.ly j).a:=rI (by omega) (by omega);have Xq:((kk.V.ly j).b-1)*(kk.V.ly j).a<=19*1000:=xy (by omega) (by omega) (by omega) (by omega);have tZ:IntKind.wrap .i64 ((s.l.gt j).nx-s.l.now)=(s.l.gt j).nx-s.l.now:=aA (by omega) (by omega);have DE:IntKind.wrap .i64 ((kk.V.ly j).b-1)=(kk.V.ly j).b-1:=aA (by omega) (by omega);have WD:IntKind.wrap .i64 (((kk.V.ly j).b-1)*(kk.V.ly j).a)=((kk.V.ly j).b-1)*(kk.V.ly j).a:=aA (by omega) (by omega);have SS:gR (kk.V.ly j) (kk.lb j) (s.l.gt j) (s.f j)=[oR (kk.lb j) 5 [i6 (s.l.gt j).nx] true]:=by unfold gR;rw[ah hk]
 have hS:=C.open hj;rw[SS]at hS;have GN:=C.hk;have hA:s.k.A=kk.A:=by rw[GN]
 have ZQ:=C.fJ.nL t W.tn;rw[<-hA]at ZQ;have D:=C.fJ.lay j hj;replace hS:=(hS.get (((ZQ.pre _).cons.cons).app (pM s))).get (((((C.fJ.Ns j hj hk).pre _).cons.cons).app (pM s)).cons)
 have back:∀u:World,Sat (E.Ok p) u (pM s++([oR (kk.lb j) 5 [i6 (s.l.gt j).nx] true]++(fI (kk.T t) v false::(R++(gX s j++E.O p)))))->w.heap.size<=u.heap.size->Cn E kk t p s u v R:=λu h hy=>by
  have:=C.shut (ea:=s.ea) (ec:=s.ec) (vv:=s.vv) (f':=s.f j) (L':=s.l) hj LG.cA (w':=u) (by rw[SS,jo];exact h) C.pv.jr (λz=>by rw[hk]at z;cases z) hy;rw[jo]at this;exact this
 refine dg f167 func167 _ rfl 60 (by kernel_rfl) hS λbb a0 B1 hn a A jf S0 iI=>?_
 by_cases hc:(s.l.gt j).sm=true/\(s.l.gt j).nx-s.l.now>((kk.V.ly j).b-1)*(kk.V.ly j).a
 .have wo:decide (IntKind.wrap .i64 ((s.l.gt j).nx-s.l.now)>IntKind.wrap .i64 (IntKind.wrap .i64 ((kk.V.ly j).b-1)*(kk.V.ly j).a))=true:=by rw[tZ,DE,WD];simpa using hc.2
  refine bA F hB a jf S0 17 [9,0,0,1,1,0,0,1,2,0,0,1,0,0,1,1,0,0,0,1] [2] [17] [(27,ptr (kk.T t)),(26,ptr (kk.lb j))] (λM=>M) 0 17 [true] [17] [(decide (IntKind.wrap .i64 ((s.l.gt j).nx-s.l.now)>IntKind.wrap .i64 (IntKind.wrap .i64 ((kk.V.ly j).b-1)*(kk.V.ly j).a)),true)] [] [] λa1 u Y P iH jA dS=>?_
  refine bK F a P Y 28 168 #[ptr (kk.lb j),ptr (kk.T t)] λgJ k=>?_
  refine xX W (back u Y.sat.tail.tail (by omega)) hj hs λs2 w2 q Z e2 je=>k _ _ _ Z.sat λa2 B2 S2 O fV=>?_
  have J0:=Z.bd;refine aq F hB a O S2 5 [] [] [] [(5,.iface 168 (ptr q)),(4,i6 0)] (λM=>M) 0 23 [true] [17] λa3 w3 S3 N gQ ji dX=>?_
  refine cV F S3 a A N [] (.tuple #[i6 0,.iface 168 (ptr q)]) ?_;have DI:=qg hc;rw[<-e2]at DI;exact K m0 p s2 w3 v [oR q 0 [i6 3,i6 j,i6 0,.nilIface] false] (.inl (.tuple #[i6 0,.iface 168 (ptr q)])) (eB 3 j 0) (by omega) (by omega) {Z with sat:=S3.sat,bd:=by omega} DI (.inr (.inl ⟨rfl,_,rfl,q,.nilIface,rfl,⟨rfl,0,rfl⟩,rfl⟩)) (λi hi=>by rw[e2];rfl) (λi hi=>by rw[e2];rfl)
 .have wo:decide (IntKind.wrap .i64 ((s.l.gt j).nx-s.l.now)>IntKind.wrap .i64 (IntKind.wrap .i64 ((kk.V.ly j).b-1)*(kk.V.ly j).a))=false:=by
   rw[tZ,DE,WD];cases x:(s.l.gt j).sm with
   |true=>simpa using λz=>hc ⟨x,z⟩
   |false=>have:=hg.sm x;simp;omega
  refine bA F hB a jf S0 24 [9,0,0,1,1,0,0,1,2,0,0,1,0,0,1,1,0,0,0,1,9,0,0,1,1,0,0,1,2,0,0,1,0,0,0,1,9,0,0,1] [0] [17,13] [(49,ptr (kk.T t)),(48,ptr (kk.lb j)),(0,ptr (kk.lb j)),(1,ptr (kk.T t))] (λM=>bu 9 (0,0) (i6 (IntKind.wrap .i64 ((if s.l.now>(s.l.gt j).nx then s.l.now else(s.l.gt j).nx)+(kk.V.ly j).a))) (M)) 0 24 [false] [17,13] [(decide (IntKind.wrap .i64 ((s.l.gt j).nx-s.l.now)>IntKind.wrap .i64 (IntKind.wrap .i64 ((kk.V.ly j).b-1)*(kk.V.ly j).a)),false)] [] [] λa1 u Y P iH jA dS=>?_
  have Xh:IntKind.wrap .i64 ((if s.l.now>(s.l.gt j).nx then s.l.now else(s.l.gt j).nx)+(kk.V.ly j).a)=(if(s.l.gt j).sm=false\/(s.l.gt j).nx<s.l.now then s.l.now else(s.l.gt j).nx)+(kk.V.ly j).a:=by
   have e1:(if s.l.now>(s.l.gt j).nx then s.l.now else(s.l.gt j).nx)=(if(s.l.gt j).sm=false\/(s.l.gt j).nx<s.l.now then s.l.now else(s.l.gt j).nx):=by
    cases x:(s.l.gt j).sm with
    |true=>simp
    |false=>have:=hg.sm x;simp only[true_or,if_true];split<;>omega
   rw[<-e1,aA]
   .split<;>omega
   .split<;>omega
  rw[Xh]at Y;obtain⟨U,Aq⟩:∃U:Gt,U={s.l.gt j with sm:=true,nx:=(if(s.l.gt j).sm=false\/(s.l.gt j).nx<s.l.now then s.l.now else(s.l.gt j).nx)+(kk.V.ly j).a}:=⟨_,rfl⟩;have d:=XK hc;rw[<-Aq]at d;have Xg:(if(s.l.gt j).sm=false\/(s.l.gt j).nx<s.l.now then s.l.now else(s.l.gt j).nx)+(kk.V.ly j).a=U.nx:=by rw[Aq]
  rw[Xg]at Y;have h2:Sat (E.Ok p) u (oR (kk.lb j) 3 [i6 (kk.V.ly j).a,i6 (kk.V.ly j).b] false::zL (kk.T t) s.k.A t (kk.aR t)::(pM s++([oR (kk.lb j) 5 [i6 U.nx] true]++(fI (kk.T t) v false::(R++(gX s j++E.O p)))))):=Y.sat.cast (by kernel_rfl);have C1:=C.shut (ea:=s.ea) (ec:=s.ec) (vv:=s.vv) (f':=s.f j) (L':=s.l.aS j U) hj (LG.aS U) (w':=u) (by rw[ug];unfold gR;rw[ah hk];exact h2.tail.tail) C.pv.jr (λz=>by rw[hk]at z;cases z) (by omega);refine bK F a P Y 50 149 #[ptr (kk.lb j),ptr (kk.T t),i6 6,i6 0] λgJ k=>?_
  refine lH W C1 hs.el hs.tc D λs2 w2 Z e2 je=>k _ _ _ (Z.sat.get ((D.pre _).cons.app (pM s2))) λa2 B2 S2 O fV=>?_
  have J0:=Z.bd;replace e2:s2.l=(s.l.aS j U).say t j 6 0:=e2;rw[<-e2]at d;obtain⟨ty,GC,LV⟩:=su W.V hj;rw[GC]at S2;unfold eM at IH;generalize fZ kk.V (j+1)=gf at*;refine aq F hB a O S2 9 [0,0,0,1] [] [] [(56,ptr (kk.T t)),(55,.iface ty (.pointer (some (Addr.mk (kk.lb (j+1)) 0 none))))] (λM=>M) 0 34 [false] [17,13] λa3 w3 S3 N gQ ji dX=>?_
  refine Mm F a N 57 gf #[ptr (kk.lb (j+1)),ptr (kk.T t)] (by rcases LV with ⟨rfl,rfl⟩|⟨rfl,rfl⟩|⟨rfl,rfl⟩|⟨rfl,rfl⟩|⟨rfl,rfl⟩<;>kernel_rfl) (by kernel_rfl) (by decide) S3 λcf Q=>?_
  refine IH m0 p s2 w3 v R cf (c::cs) {Z with sat:=S3.sat.tail,bd:=by omega} d (by omega) λm' p' s' w' v' X r b GM uR C' Ik hr Ay Il=>?_
  obtain⟨m1,rfl,En,Av,I⟩:=DY hk Ik;have sF:=C'.bd;replace F:=W.f p';replace hB:=W.hB p';have S:∀i,i<j->(s'.l.tk t).a i=(s.l.tk t).a i:=λi hi=>(Ay i (by omega)).trans (by rw[e2];rfl)
  have H:∀i,i<j->(s'.l.tk t).q i=(s.l.tk t).q i:=λi hi=>(Il i (by omega)).trans (by rw[e2];rfl)
  rcases hr with ⟨hb,rfl⟩|⟨hb,e,rfl,he⟩|⟨hb,rfl⟩
  .refine Q.ret _ _ _ _ _ C'.sat λa4 B4 S4 f jP=>?_
   refine aq F hB a f S4 5 [] [] [] [(5,.nilIface),(4,i6 b.n)] (λM=>M) 0 40 [false] [17,13] λa5 w5 S5 J mz kT jv=>?_
   refine cV F S5 a A J [] (.tuple #[i6 b.n,.nilIface]) ?_;exact K m1 p' s' w5 v' X (.inl (.tuple #[i6 b.n,.nilIface])) b (by omega) (by omega) {C' with sat:=S5.sat,bd:=by omega} I (.inl ⟨hb,rfl⟩) S H
  .obtain⟨q,rfl⟩:∃q,e=.iface 168 (ptr q):=by
    cases gI:b.ch with
    |nil=>
     rcases Av.2.2 with ⟨z,_⟩|⟨_,_,z⟩|⟨z,_⟩
     .omega
     .exact absurd gI z
     .omega
    |cons y ch=>rw[gI]at he;obtain⟨q,_,h,_⟩:=he;exact⟨q,h⟩
   refine Q.ret _ _ _ _ _ C'.sat λa4 B4 S4 f jP=>?_
   refine aq F hB a f S4 5 [] [] [] [(5,.iface 168 (ptr q)),(4,i6 0)] (λM=>M) 0 40 [false] [17,13] λa5 w5 S5 J mz kT jv=>?_
   refine cV F S5 a A J [] (.tuple #[i6 0,.iface 168 (ptr q)]) ?_;exact K m1 p' s' w5 v' X (.inl (.tuple #[i6 0,.iface 168 (ptr q)])) b (by omega) (by omega) {C' with sat:=S5.sat,bd:=by omega} I (.inr (.inl ⟨hb,_,rfl,he⟩)) S H
  .obtain⟨a4,t4,rfl,f,Cf⟩:=Q.Qx
   show E.Ψ p' (G ((bb.at a4 t4).raise (jy (.iface 166 (i6 b.n)))) (c::cs)) w'
   rw[raise_at hn.m];refine F.ow f (by rw[A];exact func167) ?_;exact K m1 p' s' w' v' X (.inr (.iface 166 (i6 b.n))) b (by omega) (by omega) C' I (.inr (.inr ⟨hb,rfl⟩)) S H
end Go.Proofs.YtobagnjnbmgidaaGreatDoor
