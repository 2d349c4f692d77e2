import Derived.Test.YtobagnjnbmgidaaGreatDoorS1
import Derived.Test.YtobagnjnbmgidaaGreatDoorP10
set_option linter.all false
set_option maxHeartbeats 0
set_option maxRecDepth 100000
namespace Go.Proofs.YtobagnjnbmgidaaGreatDoor
open Go.Conc Go.RowKit Tryz
variable{J ca:Addr}{b:Bk}{V:Ev0}{num I Y si st:Int}{y:ju}{T bt c cap e g j l lb m n o Q U:Nat}{s:PS}{C R:aW}{w w':aj}{cf:aC}{wi:ay}{v:eX}{L:iy}{cs:cO}
variable{H:Bool}{B t:Nat}{Ok:dh}{Ψ:gi}{γ:Type}{D:PK}{Z:LS}{E:TE γ}
def Ma(o:Oper)(x y d U:Nat):Bool:=o.guard.isNone&&(match o.dst with|some d'=>d'==d|none=>false)&&(match o.op with
 |.slice t (.tmp x') (some (.tmp y')) none none=>t==U&&x'==x&&y'==y
 |_=>false)
theorem HY{o:Oper}{x y d:Nat}(h:Ma o x y d U=true):o.guard=none/\o.dst=some d/\o.op=.slice U (.tmp x) (some (.tmp y)) none none:=by
 unfold Ma at h;simp only[bZ]at h;obtain⟨⟨e,b⟩,a⟩:=h;have c:o.guard=none:=by
  cases c:o.guard with
  |none=>rfl
  |some p=>rw[c]at e;cases e
 refine⟨c,?_,?_⟩
 .split at b
  .rename_i k g;rw[g];simp at b;rw[b]
  .cases b
 .split at a
  .rename_i t j i f;simp only[bZ,beq_iff_eq]at a;rw[f,a.1.1,a.1.2,a.2]
  .cases a
theorem vr(a:Qc prog U e n bt=true)(w:aj){q:Nat}(f:l<=q)(e:q<=cap):(Instr.sliceAt U (.slice (some ca) q cap) (some (.int .i64 (l:Int))) none none).run prog w=.ok (.slice (some (if cap=l then ca else ca.add (l*n))) (q-l) (cap-l)) w/\
 (Instr.sliceAt U (.slice (some ca) q cap) (some (.int .i64 (l:Int))) none none).events prog w #[]=#[]:=by
 obtain⟨inf,z,d,c,b,b,g,g,g⟩:=kv a;have a:(l:Int)<=(q:Int):=by omega
 constructor
 .simp[Instr.sliceAt,run_underlying d,Instr.slice,Instr.sliceBounds,Instr.sliceBound,asInt,asIntOf,sizeOf,typeInfo,c,b,f,e,a];split<;>rfl
 .simp[Instr.sliceAt,run_underlying d,Instr.slice,Instr.sliceBounds,Instr.sliceBound,asInt,asIntOf,sizeOf,typeInfo,c,b,f,e,a]
theorem bkS(u:Qc prog U e n bt=true)(F:aB prog H (DX Ok) Ψ)(hB:HB B Ok){b:aC}(Z:b.kind=.normal){f m:Nat}{j:iy}{g:aN}(q:Nat)(A:List Hint)(C:iK)(O:Env){N:Nat}{E:Env}{M:aW}{a:Act}(x y d:Nat){ln:Nat}(ht:mP (pc prog f m j g)=true)(s:((aL (pc prog f m j g))[q]?).map (λo=>Ma o x y d U)=some true){e:Int}(T:e=(l:Int))(h:Ay prog [] [] (aL (pc prog f m j g)) q E M c c [x,y] (O.map Prod.fst) (iD prog B N E M c A C (aL (pc prog f m j g)) q)=some ⟨[some (.slice (some ca) ln cap),some (i6 e)],O.map (λp=>some p.2),M,c,[],[],[],true⟩)(hq:K5 Prod.fst (iD prog B N E M c A C (aL (pc prog f m j g)) q)=K5 Prod.snd (iD prog B N E M c A C (aL (pc prog f m j g)) q))(halt:tT prog (aL (pc prog f m j g)) [] [] true (iD prog B N E M c A C (aL (pc prog f m j g)) q)=tT prog (aL (pc prog f m j g)) [] [] false (iD prog B N E M c A C (aL (pc prog f m j g)) q))(D:(x==y)=false)(I:(O.map Prod.fst).contains d=false)(R:.inRegion (aL (pc prog f m j g)) (bP (q+1) ((aL (pc prog f m j g)).size-(q+1)))::behind (pc prog f m j g)=pc prog f (m+1) j (g++[q+1]))(z:l<=ln)(X:ln<=cap)(S:St Ok B N E M c a w)(K:∀Y w',St Ok B N ((d,.slice (some (if cap=l then ca else ca.add (l*n))) (ln-l) (cap-l))::O) M c Y w'->Y.defers=a.defers->Ψ (G (b.at Y (pc prog f (m+1) j (g++[q+1]))) cs) w'):Ψ (G (b.at a (pc prog f m j g)) cs) w:=by
 subst T;cases t:(aL (pc prog f m j g))[q]? with
 |none=>rw[t]at s;cases s
 |some o=>
  rw[t]at s;obtain⟨g1,g2,g3⟩:=HY (Option.some.inj s);refine X5 (Post:=λv w'=>v=.slice (some (if cap=l then ca else ca.add (l*n))) (ln-l) (cap-l)/\Sat Ok w' M/\w'.heap.size=B+c) [] [] F aK hB Z q A C c [(x,.slice (some ca) ln cap),(y,i6 l)] O M c [] [] [] ht t h hq (λL J=>?_) halt eU eU eU S (λv a k=>?_) (λa1 Q rest P KK=>?_) (λv a a2 w3 k hA W V a=>?_)
  .rw[g2]at J;cases J;intro a;rw[LB.2 a]at I;cases I
  .exact⟨k.2.1.dB (λi r hr=>by cases hr),by have:=k.2.2;omega⟩
  .have b:a1.eval (.tmp x)=.slice (some ca) ln cap:=by rw[P.env.eval (by simp[kn,look])];simp[ev,look]
   have a:a1.eval (.tmp y)=.int .i64 (l:Int):=by rw[P.env.eval (by simp[kn,look,D])];simp[ev,look,D]
   refine F.AZ t (by simp[Region.wanted,g1]) (by rw[Z];decide) (λL=>?_) λL c c=>?_
   .unfold execOp;simp only[g3,fI,YU,b,a,YV,(vr u (Q.at L) (ca:=ca) z X).1,(vr u (Q.at L) (ca:=ca) z X).2,xg];rfl
   .unfold execOp;simp only[g3,fI,YU,b,a,Am,(vr u (Q.at L) (ca:=ca) z X).1,Hv];exact c _ (KK _ _ ⟨rfl,P.sat,P.sz⟩)
  .obtain⟨rfl,z2,a⟩:=k;rw[R];rw[g2]at hA;exact K a2 w3 ⟨hA,z2.keep V,by omega⟩ W
theorem oB(F:aB prog H (DX Ok) Ψ)(j:HB B Ok){q:Int}{c b a d:ay}(i:Sat Ok w (pM s++(oR lb 8 [c,b,i6 I,a,d] true::C)))(r:Has C (tQ lb wi num s.k.J))(l:Has C (wF T s.k.A t Q))(o:Vc Ok s.ea s.l.el s.ec)(a:B<=w.heap.size)(d:s.l.el<1000000)(p:(s.l.tk t).c=t)(a:0<=I/\I<1000000)(K:∀f a c w',Sat Ok w' (pM (s.dI f a c (s.l.say t num q 0))++(oR lb 8 [i6 st,i6 s.l.now,i6 (I+1),i6 0,.slice none 0 0] true::C))->Vc Ok (some ⟨f,0,none⟩) (s.l.el+1) a->w.heap.size<=w'.heap.size->Ψ (G (cf.finish (.tuple #[])) cs) w'):
 Ψ (G (Frame.enter prog 174 #[ptr lb,i6 st,ptr T,i6 q] .normal) (cf::cs)) w:=by
 have e:IntKind.wrap .i64 (I+1)=I+1:=aA (by omega) (by omega);replace i:=i.get (l.cons.app (pM s));refine cJ func174 i 36 λb b b b b h g n m=>aq F j b g n 58 [0,0,0,1,1,0,0,1,8,0,0,3,8,0,2,3] [] [] [(34,i6 q),(33,ptr T),(32,ptr lb)] (λM=>bh 8 (0,4) (.slice none 0 0) (bh 8 (0,3) (i6 0) (bh 8 (0,2) (i6 (IntKind.wrap .i64 (I+1))) (bh 8 (0,1) (i6 s.l.now) (bh 8 (0,0) (i6 st) (M)))))) 0 42 1 [] λg m k g n n n=>?_;rw[e]at k;have n:Sat Ok m (wF T s.k.A t Q::(pM s++(oR lb 8 [i6 st,i6 s.l.now,i6 (I+1),i6 0,.slice none 0 0] true::C))):=k.sat.cast (by kernel_rfl);refine bu F b g k 35 149 #[ptr lb,ptr T,i6 q,i6 0] λe e=>Er F j n.tail (r.cons) (l.cons) o (by omega) d p λf a c d l d g=>e _ _ _ l λe e l e g=>aq F j b e l 1 [] [] [] [] (λM=>M) 0 44 1 [] λe j g e l l l=>cC F g b h e [] (.tuple #[]) ?_;exact K f a c j g.sat d (by omega)
abbrev O6(lb:Nat)(x0 x1 x2 x3:ay)(J:Addr)(c:Nat)(L:iy)(y:ju):List aH:=[oR lb 8 [x0,x1,x2,x3,.slice (some J) L.length c] false,BN J L,oR lb 3 [i6 y.a,i6 y.b,i6 y.c,i6 y.d,i6 y.e] false]
theorem Ax{f e d b:ay}(h:Fr (Wr (O6 lb f e d b J c L y)) w w'):Fr (λ_=>False) w w':=h.Cc λa ⟨i,r,j,g,a,_⟩=>by
 rw[dF]at g;grind
theorem v9(F:aB prog H (DX Ok) Ψ)(p:HB B Ok){q:aC}(b:q.kind=.normal)(l:q.fn=170){cf:aC}{cs:cO}{lb c B1:Nat}{I E D C:ay}{J:Addr}{L:iy}{y:ju}{N:aj}(Q:L.length<=30)(k:B<=B1):
 ∀(m i:Nat)(h:Act)(w:aj),i+m=L.length->h.defers=[]->w.heap.size=B1->Fr (λ_=>False) N w->St Ok B1 32 [(11,i6 i),(10,i6 L.length),(9,.slice (some J) L.length c),(3,i6 (dY (L.take i))),(0,ptr lb)] (O6 lb I E D C J c L y) 0 h w->
   (∀A w',A.defers=[]->w'.heap.size=B1->Fr (λ_=>False) N w'->St Ok B1 32 [(11,i6 L.length),(10,i6 L.length),(9,.slice (some J) L.length c),(3,i6 (dY L)),(0,ptr lb)] (O6 lb I E D C J c L y) 0 A w'->Ψ (G (q.at A (pc prog 170 20 [] [])) (cf::cs)) w')->Ψ (G (q.at h (pc prog 170 20 [] [])) (cf::cs)) w
 |0,i,h,w,u,a,j,o,n,K=>by
  rw[jI]at u;subst u;rw[List.take_length]at n;exact K h w a j o n
 |m+1,i,h,w,u,a,j,o,n,K=>by
  have j:decide ((i:Int)<(L.length:Int))=true:=by simp;omega
  have P:IntKind.wrap .i64 ((i:Int)+1)=((i+1:Nat):Int):=by rw[aA (by omega) (by omega)];rfl
  have g:=uS (L:=L) (i:=i) (by omega);have v:=Yy (L.take i);rw[uq]at v;cases O:L.getD i false with
  |true=>
   rw[O,ah rfl]at g;have j:IntKind.wrap .i64 ((dY (L.take i):Int)+1)=((dY (L.take (i+1)):Nat):Int):=by rw[g,aA (by omega) (by omega)];rfl
   refine aX F p b a n 31 [1,i,0,101] [2,2,2] [] [(11,i6 (IntKind.wrap .i64 ((↑i:Int)+1))),(3,i6 (IntKind.wrap .i64 ((↑(dY (List.take i L)):Int)+1))),(10,i6 (↑(List.length L):Int)),(9,.slice (some J) (List.length L) c),(0,ptr lb)] (λM=>M) 0 51 7 [] [(List.getD L i false,true),(decide ((↑i:Int)<(↑(List.length L):Int)),true)] [((↑i:Int),List.length L)] [(1,(i,List.length L))] λx r f d s t e=>?_;rw[P,j]at f;replace f:=f.dB [(11,i6 ((i+1:Nat):Int)),(10,i6 L.length),(9,.slice (some J) L.length c),(3,i6 (dY (L.take (i+1)))),(0,ptr lb)] rfl;rw[show pc prog 170 51 (Bo 7) []=pc prog 170 20 [] [] by kernel_rfl];exact v9 F p b l Q k m (i+1) x r (by omega) d (by omega) (o.trans (Ax e) (λ_ z=>z.elim)) f K
  |false=>
   rw[O,af (by decide)]at g;replace g:dY (L.take (i+1))=dY (L.take i):=g;refine aX F p b a n 27 [1,i,0,101] [2,2,0] [] [(11,i6 (IntKind.wrap .i64 ((↑i:Int)+1))),(10,i6 (↑(List.length L):Int)),(9,.slice (some J) (List.length L) c),(3,i6 (↑(dY (List.take i L)):Int)),(0,ptr lb)] (λM=>M) 0 47 5 [] [(List.getD L i false,false),(decide ((↑i:Int)<(↑(List.length L):Int)),true)] [((↑i:Int),List.length L)] [(1,(i,List.length L))] λx r f d s t e=>?_;rw[P,<-g]at f;rw[show pc prog 170 47 (Bo 5) []=pc prog 170 20 [] [] by kernel_rfl];exact v9 F p b l Q k m (i+1) x r (by omega) d (by omega) (o.trans (Ax e) (λ_ z=>z.elim)) f K
theorem Bt(F:aB prog H (DX Ok) Ψ)(g:HB B Ok){f e d b:ay}(i:L.length<=30)(a:1<=y.c/\y.c<=100)(h:B<=w.heap.size)(h:Sat Ok w (O6 lb f e d b J c L y))(K:∀w',Fr (λ_=>False) w w'->Ψ (G (cf.finish (.bool (over y L))) cs) w'):
 Ψ (G (Frame.enter prog 170 #[ptr lb] .normal) (cf::cs)) w:=by
 have b:decide ((L.length:Int)<(L.length:Int))=false:=by simp
 have b:=Yy L;have b:0<=y.c*(L.length:Int):=YE (by omega) (by omega);have b:y.c*(L.length:Int)<=100*30:=YT a.2 (by omega) (by omega) (by omega);have e:IntKind.wrap .i64 (100*(dY L:Int))=100*(dY L:Int):=aA (by omega) (by omega);have d:IntKind.wrap .i64 (y.c*(L.length:Int))=y.c*(L.length:Int):=aA (by omega) (by omega);refine cJ func170 h 32 λa a l a a b f j h=>aq F g a f j 20 [0,0,4,1] [] [] [(11,i6 0),(10,i6 (↑(List.length L):Int)),(9,.slice (some J) (List.length L) c),(3,i6 0),(0,ptr lb)] (λM=>M) 0 20 1 [] λj h k c f f f=>v9 F g a b i (B1:=l) (by omega) L.length 0 j h (bK _) c (by omega) (Ax f) k λc c f c c h=>aX F g a f h 12 [2,0,2,1,0,0,4,1] [0] [12] [(2,.bool (decide (IntKind.wrap .i64 (100*(↑(dY L):Int))≥IntKind.wrap .i64 (y.c*(↑(List.length L):Int)))))] (λM=>M) 0 32 2 [12] [(decide ((↑(List.length L):Int)<(↑(List.length L):Int)),false)] [] [] λf h i f g g g=>cC F i a b f [] (.bool (decide (IntKind.wrap .i64 (100*(↑(dY L):Int))≥IntKind.wrap .i64 (y.c*(↑(List.length L):Int))))) ?_;rw[e,d,show decide (100*(dY L:Int)≥y.c*(L.length:Int))=over y L by unfold over;grind];exact K h (c.trans (Ax g) (λ_ z=>z.elim))
theorem Sat.vw{k i d b:ay}(h:Sat Ok w (pM s++(oR lb 8 [k,i,d,b,.slice (some ⟨g,o,none⟩) L.length c] true::fR ⟨g,0,none⟩ 1 v (o+c) true::C)))(x:Has C (oR lb 3 [i6 y.a,i6 y.b,i6 y.c,i6 y.d,i6 y.e] false))(s:L.length<=c)(u:∀j,j<L.length->(v (o+j)).getD 0 undef=.bool (L.getD j false)):Sat Ok w (O6 lb k i d b ⟨g,o,none⟩ c L y):=by
 have q:=h.mem (r:=oR lb 8 [k,i,d,b,.slice (some ⟨g,o,none⟩) L.length c] true) (by simp);have p:=h.mem (r:=fR ⟨g,0,none⟩ 1 v (o+c) true) (by simp);obtain⟨_,b,m⟩:=x;have t:=h.mem (r:=oR lb 3 [i6 y.a,i6 y.b,i6 y.c,i6 y.d,i6 y.e] false) (by rw[dF]at m;grind);refine sat_iff.2 ⟨λr l=>?_,?_⟩
 .simp only[ak,bH,or_false]at l;rcases l with rfl|rfl|rfl
  .exact⟨q.val,λj a=>⟨(q.ok j a).1,λz=>(by cases z)⟩,λz=>(by cases z),λg e n z=>(by cases z)⟩
  .have key:∀j:Ix,(BN (⟨g,o,none⟩:Addr) L).has j->(fR ⟨g,0,none⟩ 1 v (o+c) true).has (o+j.1,0)/\(BN (⟨g,o,none⟩:Addr) L).ad j=(fR ⟨g,0,none⟩ 1 v (o+c) true).ad (o+j.1,0)/\(BN (⟨g,o,none⟩:Addr) L).get j=(fR ⟨g,0,none⟩ 1 v (o+c) true).get (o+j.1,0):=λj a=>by
    obtain⟨j,f⟩:=j;have A:j<L.length:=a.1;have b:f<1:=a.2;obtain rfl:f=0:=by omega
    exact⟨⟨by grind,aD⟩,by simp[ey],(u j A).symm⟩
   exact⟨λj a=>by rw[(key j a).2.1,(key j a).2.2];exact p.val _ (key j a).1,λj a=>⟨by rw[(key j a).2.1];exact(p.ok _ (key j a).1).1,λz=>(by cases z)⟩,λz=>(by cases z),λg e n z=>(by cases z)⟩
  .exact t
 .refine WE λr l a a a=>?_;grind
theorem FL(F:aB prog H (DX Ok) Ψ)(i:HB B Ok)(P:Sat Ok w (pM s++(oR lb 8 [i6 st,i6 si,i6 I,i6 Y,.slice (some ⟨g,o,none⟩) L.length c] true::fR ⟨g,0,none⟩ 1 v (o+c) true::C)))(h1:Has C (tQ lb wi num s.k.J))(h2:Has C (wF T s.k.A t Q))(h3:Has C (oR lb 3 [i6 y.a,i6 y.b,i6 y.c,i6 y.d,i6 y.e] false))(hv:Vc Ok s.ea s.l.el s.ec)(S:B<=w.heap.size)(D:s.l.el<1000000)(hc:(s.l.tk t).c=t)(Xq:0<=I/\I<1000000)(nI:0<L.length)(hLc:L.length<=c)(B:(L.length:Int)<=y.a+1)(hy:(1<=y.a/\y.a<=20)/\(1<=y.c/\y.c<=100))(B:∀j,j<L.length->(v (o+j)).getD 0 undef=.bool (L.getD j false)){d:iy}(hL':d=if(L.length:Int)>y.a then L.tail else L)(K1:¬(y.b<=d.length/\over y d=true)->∀B S w',B+S=o+c->d.length<=S->(∀j,j<d.length->(v (B+j)).getD 0 undef=.bool (d.getD j false))->Sat Ok w' (pM s++(oR lb 8 [i6 st,i6 si,i6 I,i6 Y,.slice (some ⟨g,B,none⟩) d.length S] true::fR ⟨g,0,none⟩ 1 v (B+S) true::C))->w.heap.size<=w'.heap.size->Ψ (G (cf.finish (.tuple #[])) cs) w')(K2:y.b<=d.length/\over y d=true->∀R e k w',Sat Ok w' (pM (s.dI R e k (s.l.say t num 9 0))++(oR lb 8 [i6 1,i6 s.l.now,i6 (I+1),i6 0,.slice none 0 0] true::C))->Vc Ok (some ⟨R,0,none⟩) (s.l.el+1) e->w.heap.size<=w'.heap.size->Ψ (G (cf.finish (.tuple #[])) cs) w'):
 Ψ (G (Frame.enter prog 176 #[ptr lb,ptr T] .normal) (cf::cs)) w:=by
 obtain⟨l,B,t⟩:∃l:Nat,(l=if(L.length:Int)>y.a then 1 else 0)/\(l:Int)=(if IntKind.wrap .i64 ((L.length:Int)-y.a)>0 then IntKind.wrap .i64 ((L.length:Int)-y.a)else 0):=by
  rw[aA (by omega) (by omega)];grind
 have w:d=L.drop l:=by
  rw[hL',B];split<;>simp
 have w:l<=1:=by grind
 have w:l<L.length:=by
  grind
 have G:d.length=L.length-l:=by grind
 have B:=P;replace P:=P.get (h3.cons.cons.app (pM s));refine cJ func176 P 40 λB B B1 B b x B S0 S=>aq F i b B S0 1 [] [] [] [(0,ptr lb),(1,ptr T)] (λM=>M) 0 1 1 [] λB B S1 B S S S=>bkS t152 F (λa wr z=>i a wr (by omega)) b 16 (Hq [8,0,4,1,8,0,4,1,0,0,0,1]) [] [(4,ptr lb),(0,ptr lb),(1,ptr T)] 8 19 20 (ca:=⟨g,o,none⟩) (l:=l) (ln:=L.length) (cap:=c) (by kernel_rfl) (by kernel_rfl) t.symm (by kernel_rfl) (by kernel_rfl) (by kernel_rfl) rfl (by kernel_rfl) (by kernel_rfl) (Nat.le_of_lt w) hLc S1 λa a V u=>?_;have t:(if c=l then(⟨g,o,none⟩:Addr)else(⟨g,o,none⟩:Addr).add (l*1))=⟨g,o+l,none⟩:=by rw[af (by omega),ey,lm]
 rw[t,<-G]at V;rw[B]at u;have t:a.heap.size=B1:=by have:=V.sz;omega
 have m:∀j,j<d.length->(v (o+l+j)).getD 0 undef=.bool (d.getD j false):=λj j=>by
  grind
 have p:o+l+(c-l)=o+c:=by omega
 have fin:∀f:World,a.heap.size<=f.heap.size->Sat Ok f (bh 8 (0,4) (.slice (some (Addr.mk g (o+l) none)) (List.length d) (c-l)) (oR lb 3 [i6 y.a,i6 y.b,i6 y.c,i6 y.d,i6 y.e] false::(pM s++(oR lb 8 [i6 st,i6 si,i6 I,i6 Y,.slice (some ⟨g,o,none⟩) L.length c] true::fR ⟨g,0,none⟩ 1 v (o+c) true::C))))->Sat Ok f (pM s++(oR lb 8 [i6 st,i6 si,i6 I,i6 Y,.slice (some ⟨g,o+l,none⟩) d.length (c-l)] true::fR ⟨g,0,none⟩ 1 v (o+l+(c-l)) true::C)):=λf A h=>by
  rw[p];have a:Sat Ok f (oR lb 3 [i6 y.a,i6 y.b,i6 y.c,i6 y.d,i6 y.e] false::(pM s++(oR lb 8 [i6 st,i6 si,i6 I,i6 Y,.slice (some ⟨g,o+l,none⟩) d.length (c-l)] true::fR ⟨g,0,none⟩ 1 v (o+c) true::C))):=h.cast (by kernel_rfl);exact a.tail
 by_cases J:y.b<=d.length
 .have E:decide ((d.length:Int)≥y.b)=true:=by grind
  refine aX F i b u V 9 [8,0,4,1,8,0,4,1,0,0,1,1] [2] [9] [(34,ptr lb),(33,.bool true),(0,ptr lb),(1,ptr T)] (λM=>bh 8 (0,4) (.slice (some (Addr.mk g (o+l) none)) (List.length d) (c-l)) (M)) 0 11 1 [17,9] [(decide ((↑(List.length d):Int)≥y.b),true)] [] [] λa3 f O r X A mH=>bu F b r O 35 170 #[ptr lb] λa h=>?_;have j:=fin f (by omega) O.sat;refine Bt F i (L:=d) (y:=y) (by omega) hy.2 (by omega) (j.vw h3 (by omega) m) λa a=>?_;have s:=a.size;refine h _ _ _ (j.keep a) λa a U K a=>?_;cases n:over y d with
  |true=>
   rw[n]at U;refine aq F i b K U 6 [] [3] [] [(38,ptr T),(37,ptr lb)] (λM=>M) 0 18 3 [17,9] λa5 w5 N q W Z qO=>bu F b q N 39 174 #[ptr lb,i6 1,ptr T,i6 9] λa a=>oB F i N.sat h1.cons h2.cons hv (by omega) D hc Xq λR e k h s h j=>a _ _ _ s λa a s a j=>aq F i b a s 1 [] [] [] [] (λM=>M) 0 20 3 [17,9] λa s j a t t t=>cC F j b x a [] (.tuple #[]) ?_;exact K2 ⟨J,n⟩ R e k s (j.sat.sub (nN (.cons_cons _ (.cons _ (.refl _))) _)) h (by omega)
  |false=>
   rw[n]at U;refine aq F i b K U 4 [] [1] [] [] (λM=>M) 0 16 2 [17,9] λa5 w5 N q W Z qO=>cC F N b x q [] (.tuple #[]) ?_;exact K1 (λz=>by grind) (o+l) (c-l) w5 p (by omega) m N.sat (by omega)
 .have E:decide ((d.length:Int)≥y.b)=false:=by grind
  refine aX F i b u V 14 [8,0,4,1,8,0,4,1,0,0,1,1] [0,1,1] [9] [] (λM=>bh 8 (0,4) (.slice (some (Addr.mk g (o+l) none)) (List.length d) (c-l)) (M)) 0 16 2 [17,9] [(decide ((↑(List.length d):Int)≥y.b),false)] [] [] λa3 f O r X A mH=>cC F O b x r [] (.tuple #[]) ?_;exact K1 (λz=>J z.1) (o+l) (c-l) f p (by omega) m (fin f (by omega) O.sat) (by omega)
theorem FM(F:aB prog H (DX Ok) Ψ)(f:HB B Ok)(N:Sat Ok w (pM s++(oR lb 8 [i6 st,i6 si,i6 I,i6 Y,.slice (some ⟨g,o,none⟩) L.length c] true::fR ⟨g,0,none⟩ 1 v (o+c) true::C)))(h1:Has C (tQ lb wi num s.k.J))(h2:Has C (wF T s.k.A t Q))(h3:Has C (oR lb 3 [i6 y.a,i6 y.b,i6 y.c,i6 y.d,i6 y.e] false))(hv:Vc Ok s.ea s.l.el s.ec)(x:B<=w.heap.size)(h:s.l.el<1000000)(hc:(s.l.tk t).c=t)(z:0<=I/\I<1000000)(B:L.length<=c)(x:(L.length:Int)<=y.e)(hy:(1<=y.c/\y.c<=100)/\(1<=y.e/\y.e<=9))(x:∀j,j<L.length->(v (o+j)).getD 0 undef=.bool (L.getD j false))(K1:(L.length:Int)≠y.e->∀w',Sat Ok w' (pM s++(oR lb 8 [i6 st,i6 si,i6 I,i6 Y,.slice (some ⟨g,o,none⟩) L.length c] true::fR ⟨g,0,none⟩ 1 v (o+c) true::C))->w.heap.size<=w'.heap.size->Ψ (G (cf.finish (.tuple #[])) cs) w')(K2:(L.length:Int)=y.e->∀r b d w',Sat Ok w' (pM (s.dI r b d (s.l.say t num (bif over y L then 9 else 11) 0))++(oR lb 8 [i6 (bif over y L then 1 else 0),i6 s.l.now,i6 (I+1),i6 0,.slice none 0 0] true::C))->Vc Ok (some ⟨r,0,none⟩) (s.l.el+1) b->w.heap.size<=w'.heap.size->Ψ (G (cf.finish (.tuple #[])) cs) w'):
 Ψ (G (Frame.enter prog 177 #[ptr lb,ptr T] .normal) (cf::cs)) w:=by
 have c:=N;replace N:=N.get (h3.cons.cons.app (pM s));refine cJ func177 N 22 λc c c c a q E S0 c=>?_;by_cases k:(L.length:Int)=y.e
 .refine aX F f a E S0 10 [8,0,4,1,0,0,4,1] [0] [9] [(14,ptr lb),(0,ptr lb),(1,ptr T)] (λM=>M) 0 10 2 [9] [(decide ((↑(List.length L):Int)<y.e),false)] [] [] λa1 w1 u p V Dx o9=>bu F a p u 15 170 #[ptr lb] λc g=>Bt F f (L:=L) (y:=y) (by omega) hy.1 (by omega) (u.sat.tail.vw h3 B x) λc c=>?_;have j:=c.size;refine g _ _ _ (u.sat.tail.keep c) λc c O D c=>?_;cases A:over y L with
  |true=>
   rw[A]at O K2;refine aq F f a D O 5 [] [3] [] [(17,ptr T),(16,ptr lb)] (λM=>M) 0 16 6 [9] λa3 w3 K n U Z mH=>bu F a n K 18 174 #[ptr lb,i6 1,ptr T,i6 9] λDl e=>oB F f K.sat h1.cons h2.cons hv (by omega) h hc z λr b d w4 h4 i X=>e _ _ _ h4 λa4 B4 S4 m S=>aq F f a m S4 1 [] [] [] [] (λM=>M) 0 18 6 [9] λa5 P J l R W qO=>cC F J a q l [] (.tuple #[]) ?_;exact K2 k r b d P (J.sat.sub (nN (.cons_cons _ (.cons _ (.refl _))) _)) i (by omega)
  |false=>
   rw[A]at O K2;refine aq F f a D O 5 [] [1] [] [(20,ptr T),(19,ptr lb)] (λM=>M) 0 16 4 [9] λa3 w3 K n U Z mH=>bu F a n K 21 174 #[ptr lb,i6 0,ptr T,i6 11] λDl e=>oB F f K.sat h1.cons h2.cons hv (by omega) h hc z λr b d w4 h4 i X=>e _ _ _ h4 λa4 B4 S4 m S=>aq F f a m S4 1 [] [] [] [] (λM=>M) 0 18 4 [9] λa5 P J l R W qO=>cC F J a q l [] (.tuple #[]) ?_;exact K2 k r b d P (J.sat.sub (nN (.cons_cons _ (.cons _ (.refl _))) _)) i (by omega)
 .refine aX F f a E S0 6 [8,0,4,1,0,0,4,1] [2] [9] [] (λM=>M) 0 6 3 [9] [(decide ((↑(List.length L):Int)<y.e),true)] [] [] λa1 w1 u p V Dx o9=>cC F u a q p [] (.tuple #[]) ?_;exact K1 k w1 u.sat.tail (by omega)
theorem sF{x:Int}(a:x≠7):∀(ch:List iN),ch≠[]->(∀y∈ch.dropLast,y.k=7)->(ch.any λy=>y.k==x)=decide ((match ch.getLast? with|some y=>y.k|none=>0)=x)
 |[],h,_=>absurd rfl h
 |[y],_,_=>by grind
 |y::z::ch,_,h=>by
  have b:y.k=7:=h y (by simp);have b:(y.k==x)=false:=by grind
  rw[Ao,b,uh,sF a (z::ch) (by simp) (λu a=>h u (by simp_all))];rfl
theorem uB(F:aB prog H (DX Ok) Ψ)(g:HB B Ok){e:ay}(k:G5 b)(i:(b.k≠2/\e=.nilIface)\/(b.k=2/\Yu C e b.ch))(t:Sat Ok w C)(A:B<=w.heap.size)(K:∀w',Sat Ok w' C->w.heap.size<=w'.heap.size->Ψ (G (cf.finish (.bool (decide (bq b=3\/bq b=5)))) cs) w'):
 Ψ (G (Frame.enter prog 175 #[e] .normal) (cf::cs)) w:=by
 rcases i with ⟨w,rfl⟩|⟨w,i⟩
 .have A:b.ch=[]:=by
   rcases k.2.2 with ⟨_,z⟩|⟨z,_⟩|⟨_,z⟩
   .exact z
   .omega
   .exact z
  have w:bq b=0:=by unfold bq;rw[A];rfl
  rw[w]at K;refine cJ func175 t 11 λI J L x a d f r n=>bB F g a d f r 62 [] [3,3,3,1,1,1,3,3,3] [] 2 (.bool false) (λM=>M) 0 16 1 [] λs l m o=>K s l.sat (by omega)
 .have c:b.ch≠[]:=by
   rcases k.2.2 with ⟨z,_⟩|⟨_,_,z⟩|⟨z,_⟩
   .omega
   .exact z
   .omega
  have E:(b.ch.any λy=>y.k==3)=decide (bq b=3):=sF (by decide) b.ch c k.2.1;have D:(b.ch.any λy=>y.k==5)=decide (bq b=5):=sF (by decide) b.ch c k.2.1;obtain⟨q,v⟩:∃q,e=.iface 168 (ptr q):=by
   cases p:b.ch with
   |nil=>simp_all
   |cons y ch=>rw[p]at i;obtain⟨q,_,h,_⟩:=i;simp_all
  subst v;refine cJ func175 t 11 λI J L x a d f r n=>aq F g a f r 8 [] [] [] [(4,.iface 171 (i6 3)),(3,.iface 168 (ptr q)),(0,.iface 168 (ptr q))] (λM=>M) 0 8 1 [] λe s l e m o f=>bu F a e l 5 163 #[.iface 168 (ptr q),.iface 171 (i6 3)] λe e=>IM F g i c l.sat (by omega) λf k f=>e _ _ _ k λe e j e f=>?_;rw[E]at j;by_cases h:bq b=3
  .rw[show decide (bq b=3)=true by simp_all]at j;rw[show decide (bq b=3\/bq b=5)=true by simp[h]]at K;refine bB F g a d e j 7 [] [3,3,3] [] 2 (.bool true) (λM=>M) 0 16 1 [] λm f k l=>K m f.sat (by omega)
  .rw[show decide (bq b=3)=false by simp_all]at j;rw[show decide (bq b=3\/bq b=5)=decide (bq b=5) by simp[h]]at K;refine aq F g a e j 3 [] [1,1] [] [(8,.iface 171 (i6 5)),(6,.bool false),(7,.iface 168 (ptr q))] (λM=>M) 0 12 1 [] λe m f e k l h=>bu F a e f 9 163 #[.iface 168 (ptr q),.iface 171 (i6 5)] λe e=>IM F g i c f.sat (by omega) λc f c=>e _ _ _ f λc c u c e=>?_;rw[D]at u;refine bB F g a d c u 3 [] [] [] 2 (.bool (decide (bq b=5))) (λM=>M) 0 16 1 [] λa c b b=>K a c.sat (by omega)
abbrev mI(lb:Nat)(g:Gt)(f:Fb):List aH:=[oR lb 8 [i6 g.st,i6 g.si,i6 g.pd,i6 g.pr,su f g.la.length] true,fR ⟨f.g,0,none⟩ 1 f.v (f.o+f.c) true]
def BK(Ok:dh)(Ψ:gi)(cf:aC)(cs:cO)(w:aj)(s:PS)(C:aW)(lb j:Nat)(L:LS):Prop:=
 ∀ea ec vv f' w',Sat Ok w' (pM {s with ea:=ea,ec:=ec,vv:=vv,f:=upd s.f j f',l:=L}++(mI lb (L.gt j) f'++C))->Vc Ok ea L.el ec->qv Ok (L.gt j).la f'->w.heap.size<=w'.heap.size->Ψ (G (cf.finish (.tuple #[])) cs) w'
def jC:Fb:=⟨false,0,0,0,λ_=>[]⟩
theorem Zj:qv Ok [] jC:=⟨λ_=>⟨rfl,rfl,rfl⟩,λz=>(by cases z),λz=>(by cases z),λj a=>(by cases a)⟩
theorem r7(L:LS)(j:Nat)(g:Gt):(L.aO j g).gt j=g:=by simp[LS.aO,upd]
theorem BK.turn{cf:aC}{cs:cO}{w w':aj}{s:PS}{C:aW}{lb j t g' cap':Nat}{vs':eX}{st q:Int}{L:LS}(K:BK Ok Ψ cf cs w s C lb j ((L.aO j ((L.gt j).turn L.now st)).say t j q 0))(a:L.now=s.l.now/\L.el=s.l.el/\L.ev=s.l.ev/\L.us=s.l.us/\L.ou=s.l.ou/\(L.tk t).c=(s.l.tk t).c)(h:Sat Ok w' (pM (s.dI g' cap' vs' (s.l.say t j q 0))++(oR lb 8 [i6 st,i6 s.l.now,i6 ((L.gt j).pd+1),i6 0,.slice none 0 0] true::C)))(b:Vc Ok (some ⟨g',0,none⟩) (s.l.el+1) cap')(b:w.heap.size<=w'.heap.size):Ψ (G (cf.finish (.tuple #[])) cs) w':=by
 obtain⟨d,e,e,e,e,e⟩:=a;have a:((L.aO j ((L.gt j).turn L.now st)).say t j q 0).gt j=(L.gt j).turn L.now st:=r7 L j _;refine K (some ⟨g',0,none⟩) cap' vs' jC w' ?_ (by show Vc Ok _ (L.el+1) _;simp_all) (by rw[a];exact Zj) b;rw[a];have a:Sat Ok w' (fR ⟨jC.g,0,none⟩ 1 jC.v (jC.o+jC.c) true::(pM (s.dI g' cap' vs' (s.l.say t j q 0))++(oR lb 8 [i6 st,i6 s.l.now,i6 ((L.gt j).pd+1),i6 0,.slice none 0 0] true::C))):=h.ff rfl rfl;have c:=a.perm (fA [fR ⟨jC.g,0,none⟩ 1 jC.v (jC.o+jC.c) true] (pM (s.dI g' cap' vs' (s.l.say t j q 0))++[oR lb 8 [i6 st,i6 s.l.now,i6 ((L.gt j).pd+1),i6 0,.slice none 0 0] true]) C|>.trans (by simp)|>λx=>(show(fR ⟨jC.g,0,none⟩ 1 jC.v (jC.o+jC.c) true::(pM (s.dI g' cap' vs' (s.l.say t j q 0))++(oR lb 8 [i6 st,i6 s.l.now,i6 ((L.gt j).pd+1),i6 0,.slice none 0 0] true::C))).Perm (pM (s.dI g' cap' vs' (s.l.say t j q 0))++(oR lb 8 [i6 st,i6 s.l.now,i6 ((L.gt j).pd+1),i6 0,.slice none 0 0] true::fR ⟨jC.g,0,none⟩ 1 jC.v (jC.o+jC.c) true::C))from by simpa using x));have a:pM {s with ea:=some ⟨g',0,none⟩,ec:=cap',vv:=vs',f:=upd s.f j jC,l:=(L.aO j ((L.gt j).turn L.now st)).say t j q 0}=pM (s.dI g' cap' vs' (s.l.say t j q 0)):=by
  unfold pM PS.dI LS.say LS.aO;simp_all
 rw[a,d];exact c
theorem Oa(F:aB prog H (DX Ok) Ψ)(o:HB B Ok){bb:aC}(a:bb.kind=.normal)(n:bb.fn=173){a2:Act}{B2:Nat}{f:Fb}(hg:qR y (s.l.gt j) 1000000000000 0)(Qi:(s.l.gt j).st=0\/(s.l.gt j).st=2)(W:St Ok B2 43 [(9,.bool (decide (bq b=3\/bq b=5))),(0,ptr lb),(1,ptr T),(2,.bool (decide (b.k≠1)))] (pM s++(mI lb (s.l.gt j) f++C)) 0 a2 w)(V:a2.defers=[])(tM:w.heap.size=B2)(h1:Has C (tQ lb wi j s.k.J))(h2:Has C (wF T s.k.A t Q))(h3:Has C (oR lb 3 [i6 y.a,i6 y.b,i6 y.c,i6 y.d,i6 y.e] false))(Z:Vc Ok s.ea s.l.el s.ec)(u:qv Ok (s.l.gt j).la f)(yQ:B<=w.heap.size)(O:s.l.el<1000000)(hc:(s.l.tk t).c=t)(hq:(s.l.tk t).q j=(s.l.gt j).pd)(hy:(1<=y.a/\y.a<=20)/\(1<=y.c/\y.c<=100)/\(1<=y.e/\y.e<=9))(K:BK Ok Ψ cf cs w s C lb j (s.l.count y t j b)):
 Ψ (G (bb.at a2 (pc prog 173 5 [] [])) (cf::cs)) w:=by
 have B:=hg.pr;have B:=hg.pd;have B:(s.l.gt j).la.length<=20:=by rcases hg.st with ⟨_,z⟩|⟨z,_⟩|⟨_,z⟩<;>omega
 obtain⟨base,U,q⟩:∃base,su f (s.l.gt j).la.length=.slice base (s.l.gt j).la.length f.c/\((base=some ⟨f.g,f.o,none⟩/\f.s=true)\/base=none/\f.o=0/\f.c=0):=by
  cases D:f.s with
  |true=>exact⟨_,by unfold su;simp_all,.inl ⟨rfl,rfl⟩⟩
  |false=>
   obtain⟨z1,z2,z3⟩:=u.nil D;exact⟨none,by unfold su;simp_all,.inr ⟨rfl,z2,z3⟩⟩
 simp only[mI,U]at W;have G:=W.sat;have B:∀ba,base=some ba->f.g<w.heap.size:=λba z=>by
  rcases q with ⟨_,z1⟩|⟨z1,_⟩
  .have P:=(u.len z1)
   have:=(G.mem (r:=fR ⟨f.g,0,none⟩ 1 f.v (f.o+f.c) true) (by simp)).val (0,0) ⟨by grind,aD⟩;exact au this
  simp_all
 by_cases hlk:bq b=3\/bq b=5
 .have B:s.l.count y t j b=s.l.aO j {s.l.gt j with pr:=if(s.l.gt j).st=2 then(s.l.gt j).pr-1 else(s.l.gt j).pr}:=by unfold LS.count;simp_all
  rw[B]at K;rw[show decide (bq b=3\/bq b=5)=true by simp_all]at W;rcases Qi with P|P
  .rw[af (by omega)]at K;refine aX F o a V W 13 [7,0,0,1] [3,0] [] [] (λM=>M) 0 18 5 [] [((s.l.gt j).st==2,false)] [] [] λa3 w3 R h B G mH=>cC F R a n h [] (.tuple #[]) ?_;refine K s.ea s.ec s.vv f w3 ?_ Z (by rw[r7];exact u) (by omega);rw[r7];simp only[mI,U];exact R.sat
  .rw[ah P]at K;have Dz:IntKind.wrap .i64 ((s.l.gt j).pr-1)=(s.l.gt j).pr-1:=aA (by omega) (by omega);refine aX F o a V W 22 [7,0,0,1,7,0,3,1,7,0,3,1] [3,2] [] [] (λM=>bh 7 (0,3) (i6 (IntKind.wrap .i64 ((s.l.gt j).pr-1))) (M)) 0 27 7 [] [((s.l.gt j).st==2,true)] [] [] λa3 w3 R h B G mH=>cC F R a n h [] (.tuple #[]) ?_;rw[Dz]at R;refine K s.ea s.ec s.vv f w3 ?_ Z (by rw[r7];exact u) (by omega);rw[r7];simp only[mI,U];exact R.sat.cast (by kernel_rfl)
 .rw[show decide (bq b=3\/bq b=5)=false by simp_all]at W;rw[pW hq hlk]at K;refine aq F o a V W 12 [7,0,4,1] [1] [] [(28,.slice (some ⟨B2,0,none⟩) 1 1),(26,.slice base (List.length (s.l.gt j).la) f.c),(22,ptr lb),(0,ptr lb),(1,ptr T)] (λM=>bR (B2) [.bool (decide (b.k≠1))]::(M)) 1 17 2 [] λa3 w3 R h B G mH=>Wo t152 (by decide) F o a 26 28 29 9 0 (g:=f.g) (o0:=0) (o:=f.o) (base:=base) (len:=(s.l.gt j).la.length) (cap:=f.c) (y:=.bool (decide (b.k≠1))) (v:=f.v) (by kernel_rfl) (by kernel_rfl) (by decide) rfl rfl (q.imp (λz=>by simp_all) id) rfl ⟨az _,λ_=>rfl⟩ rfl rfl (λba z=>⟨by grind,?_⟩) ?_ (by omega) (by omega) (by omega) R λp b4 r N I a4 w4 B _ h4 z1 z2 z3 B z5 KU E=>?_
  .rcases q with ⟨_,c⟩|⟨c,_⟩
   .exact u.ok c
   .rw[c]at z;cases z
  .rcases q with ⟨_,c⟩|⟨c,v,X⟩
   .exact(u.len c).2
   .cases D:f.s with
    |true=>have:=(u.len D).2;omega
    |false=>rw[(u.nil D).1];simp
  obtain rfl:b4=0:=by omega
  rw[bK]at z3 KU;rw[show jB (pc prog 173 17 (Bo 2) [])=pc prog 173 18 [false] [] by kernel_rfl];obtain⟨g,hLx⟩:∃g,g=(s.l.gt j).la++[decide (b.k≠1)]:=⟨_,rfl⟩;have hll:(s.l.gt j).la.length+1=g.length:=by simp_all
  have Uu:∀i,i<g.length->(N (r+i)).getD 0 undef=.bool (g.getD i false):=λi B=>by
   by_cases e:i=(s.l.gt j).la.length
   .grind
   .rw[z1 i (by omega),u.val i (by omega),hLx];grind
  have U1:∀(J:Addr)(wr:Bool),J.block=p->Ok J wr:=by
   rcases z3 with z|z
   .rcases q with ⟨e,c⟩|⟨c,_⟩
    .rw[e]at z;cases z;exact u.ok c
    .rw[c]at z;cases z
   .exact λJ wr e=>o J wr (by omega)
  have S4:St Ok w4.heap.size 43 _ _ 0 a4 w4:=⟨KU,h4.tail (M:=pM s++(oR lb 8 [i6 (s.l.gt j).st,i6 (s.l.gt j).si,i6 (s.l.gt j).pd,i6 (s.l.gt j).pr,.slice base (s.l.gt j).la.length f.c] true::fR ⟨p,0,none⟩ 1 N (r+I) true::C)),rfl⟩;replace S4:=S4.dB [(29,.slice (some ⟨p,r,none⟩) ((s.l.gt j).la.length+1) I),(22,ptr lb),(0,ptr lb),(1,ptr T)] rfl;rw[hll]at S4 z5;replace E:=E.trans h;generalize Bj:w4.heap.size=e at S4;unfold LS.pU at K;simp only[r7]at K;have fbo:∀(l:iy)(Y c':Nat),0<l.length->l.length<=c'->(∀i,i<l.length->(N (Y+i)).getD 0 undef=.bool (l.getD i false))->qv Ok l ⟨true,p,Y,c',N⟩:=λl Y c' c v X=>⟨λz=>(by cases z),λ_=>⟨c,v⟩,λ_=>U1,X⟩
  rcases Qi with P|P
  .have u:(s.l.gt j).keep y (decide (b.k≠1))=if(g.length:Int)>y.a then g.tail else g:=by
    unfold Gt.keep;grind
   have hle:((s.l.gt j).la.length:Int)<=y.a:=by rcases hg.st with ⟨_,z⟩|⟨z,_⟩|⟨z,_⟩<;>omega
   refine aX F o a E S4 16 [7,0,4,1,7,0,0,1] [2] [] [(38,ptr T),(37,ptr lb)] (λM=>bh 7 (0,4) (.slice (some (Addr.mk p r none)) (List.length g) I) (M)) 0 34 6 [] [((s.l.gt j).st==0,true)] [] [] λa5 w5 S5 B Y5 Dw qO=>bu F a B S5 39 176 #[ptr lb,ptr T] λJC e=>?_;have h6:Sat Ok w5 (pM s++(oR lb 8 [i6 (s.l.gt j).st,i6 (s.l.gt j).si,i6 (s.l.gt j).pd,i6 (s.l.gt j).pr,.slice (some ⟨p,r,none⟩) g.length I] true::fR ⟨p,0,none⟩ 1 N (r+I) true::C)):=S5.sat.cast (by kernel_rfl);have hkl:0<((s.l.gt j).keep y (decide (b.k≠1))).length:=by
    grind
   refine FL F o h6 h1 h2 h3 Z (by omega) O hc (by omega) (by omega) z5 (by omega) ⟨hy.1,hy.2.1⟩ Uu u (λV Y c' w6 c v X y4 y5=>e _ _ _ y4 λa6 B6 U h l=>?_) (λd g' k x w6 c v X=>e _ _ _ c λa6 B6 U h l=>?_)
   .rw[af (λz=>by grind),af (λz=>by omega)]at K;refine aq F o a h U 1 [] [] [] [] (λM=>M) 0 36 6 [] λa7 L m f i q G=>cC F m a n f [] (.tuple #[]) ?_;refine K s.ea s.ec s.vv ⟨true,p,Y,c',N⟩ L ?_ Z (by rw[r7];exact fbo _ Y c' hkl v X) (by omega);rw[r7];simp only[mI,su,if_true];exact m.sat
   .rw[ah ⟨.inl ⟨P,d.1⟩,d.2⟩]at K;refine aq F o a h U 1 [] [] [] [] (λM=>M) 0 36 6 [] λa7 L m f i q G=>cC F m a n f [] (.tuple #[]) ?_;have S:=BK.turn (Ok:=Ok) (Ψ:=Ψ) (cf:=cf) (cs:=cs) (w:=w) (s:=s) (C:=C) (lb:=lb) (j:=j) (t:=t) (L:=s.l.aO j {s.l.gt j with la:=(s.l.gt j).keep y (decide (b.k≠1))}) (g':=g') (cap':=k) (vs':=x) (w':=L) (st:=1) (q:=9) (by simp only[r7];exact K) ⟨rfl,rfl,rfl,rfl,rfl,rfl⟩;simp only[r7]at S;exact S (m.sat.sub (nN (.cons_cons _ (.refl _)) _)) v (by omega)
  .have u:(s.l.gt j).keep y (decide (b.k≠1))=g:=by
    unfold Gt.keep;grind
   have hle:((s.l.gt j).la.length:Int)<y.e:=by rcases hg.st with ⟨z,_⟩|⟨z,_⟩|⟨_,z⟩<;>omega
   rw[u]at K;refine aX F o a E S4 16 [7,0,4,1,7,0,0,1] [0] [] [(41,ptr T),(40,ptr lb)] (λM=>bh 7 (0,4) (.slice (some (Addr.mk p r none)) (List.length g) I) (M)) 0 34 4 [] [((s.l.gt j).st==0,false)] [] [] λa5 w5 S5 B Y5 Dw qO=>bu F a B S5 42 177 #[ptr lb,ptr T] λJC e=>?_;have h6:Sat Ok w5 (pM s++(oR lb 8 [i6 (s.l.gt j).st,i6 (s.l.gt j).si,i6 (s.l.gt j).pd,i6 (s.l.gt j).pr,.slice (some ⟨p,r,none⟩) g.length I] true::fR ⟨p,0,none⟩ 1 N (r+I) true::C)):=S5.sat.cast (by kernel_rfl);refine FM F o h6 h1 h2 h3 Z (by omega) O hc (by omega) z5 (by omega) hy.2 Uu (λV w6 y4 y5=>e _ _ _ y4 λa6 B6 U h l=>?_) (λd g' k x w6 c v X=>e _ _ _ c λa6 B6 U h l=>?_)
   .rw[af (λz=>by omega),af (λz=>V z.2)]at K;refine aq F o a h U 1 [] [] [] [] (λM=>M) 0 36 4 [] λa7 L m f i q G=>cC F m a n f [] (.tuple #[]) ?_;refine K s.ea s.ec s.vv ⟨true,p,r,I,N⟩ L ?_ Z (by rw[r7];grind) (by omega);rw[r7];simp only[mI,su,if_true];exact m.sat
   .refine aq F o a h U 1 [] [] [] [] (λM=>M) 0 36 4 [] λa7 L m f i q G=>cC F m a n f [] (.tuple #[]) ?_;cases A:over y g with
    |true=>
     rw[A,ah ⟨.inr ⟨P,d⟩,rfl⟩]at K;rw[A]at m;have S:=BK.turn (Ok:=Ok) (Ψ:=Ψ) (cf:=cf) (cs:=cs) (w:=w) (s:=s) (C:=C) (lb:=lb) (j:=j) (t:=t) (L:=s.l.aO j {s.l.gt j with la:=g}) (g':=g') (cap':=k) (vs':=x) (w':=L) (st:=1) (q:=9) (by simp only[r7];exact K) ⟨rfl,rfl,rfl,rfl,rfl,rfl⟩;simp only[r7]at S;exact S m.sat v (by omega)
    |false=>
     rw[A,af (λz=>by cases z.2),ah ⟨P,d⟩]at K;rw[A]at m;have S:=BK.turn (Ok:=Ok) (Ψ:=Ψ) (cf:=cf) (cs:=cs) (w:=w) (s:=s) (C:=C) (lb:=lb) (j:=j) (t:=t) (L:=s.l.aO j {s.l.gt j with la:=g}) (g':=g') (cap':=k) (vs':=x) (w':=L) (st:=0) (q:=11) (by simp only[r7];exact K) ⟨rfl,rfl,rfl,rfl,rfl,rfl⟩;simp only[r7]at S;exact S m.sat v (by omega)
theorem GO(F:aB prog H (DX Ok) Ψ)(A:HB B Ok){e:ay}{f:Fb}(hg:qR y (s.l.gt j) 1000000000000 0)(N:(s.l.gt j).st=0\/(s.l.gt j).st=2)(X:Sat Ok w (pM s++(mI lb (s.l.gt j) f++C)))(h1:Has C (tQ lb wi j s.k.J))(h2:Has C (wF T s.k.A t Q))(h3:Has C (oR lb 3 [i6 y.a,i6 y.b,i6 y.c,i6 y.d,i6 y.e] false))(hv:Vc Ok s.ea s.l.el s.ec)(hf:qv Ok (s.l.gt j).la f)(yQ:B<=w.heap.size)(x:s.l.el<1000000)(hc:(s.l.tk t).c=t)(hq:(s.l.tk t).q j=(s.l.gt j).pd)(Z:(1<=y.a/\y.a<=20)/\(1<=y.c/\y.c<=100)/\(1<=y.e/\y.e<=9))(R:G5 b)(B:(b.k≠2/\e=.nilIface)\/(b.k=2/\Yu C e b.ch))(K:BK Ok Ψ cf cs w s C lb j (s.l.count y t j b)):
 Ψ (G (Frame.enter prog 173 #[ptr lb,ptr T,.bool (decide (b.k≠1)),e] .normal) (cf::cs)) w:=by
 have d:(b.k≠2/\e=.nilIface)\/(b.k=2/\Yu (pM s++(mI lb (s.l.gt j) f++C)) e b.ch):=B.imp id λz=>⟨z.1,z.2.up λr r=>(r.app _).app _⟩
 generalize hM:pM s++(mI lb (s.l.gt j) f++C)=M at*;have fin:∀{D:aC},D.kind=.normal->D.fn=173->∀m l p,St Ok p 43 [(9,.bool (decide (bq b=3\/bq b=5))),(0,ptr lb),(1,ptr T),(2,.bool (decide (b.k≠1)))] M 0 m l->m.defers=[]->l.heap.size=p->w.heap.size<=l.heap.size->Ψ (G (D.at m (pc prog 173 5 [] [])) (cf::cs)) l:=λa k m l p u g c v=>by
  rw[<-hM]at u;exact Oa F A a k hg N u g c h1 h2 h3 hv hf (by omega) x hc hq Z λx w s t w' r j f B=>K x w s t w' r j f (by omega)
 rcases d with ⟨O,rfl⟩|⟨O,d⟩
 .refine cJ func173 X 43 λD a0 B1 hn a k o W J=>aq F A a o W 4 [] [] [] [(8,.nilIface),(0,ptr lb),(1,ptr T),(2,.bool (decide (b.k≠1)))] (λM=>M) 0 4 1 [] λa1 Y E n I L U=>bu F a n E 9 175 #[.nilIface] λV i=>uB F A R (.inl ⟨O,rfl⟩) E.sat (by omega) λl S v=>i _ _ _ S λm p u g c=>fin a k m l p (u.dB _ rfl) g c (by omega)
 .obtain⟨q,rfl⟩:∃q,e=.iface 168 (ptr q):=by
   cases P:b.ch with
   |nil=>
    rcases R.2.2 with ⟨z,_⟩|⟨_,_,z⟩|⟨z,_⟩
    .omega
    .simp_all
    .omega
   |cons y ch=>rw[P]at d;obtain⟨q,_,h,_⟩:=d;simp_all
  refine cJ func173 X 43 λD a0 B1 hn a k o W J=>aq F A a o W 4 [] [] [] [(8,.iface 168 (ptr q)),(0,ptr lb),(1,ptr T),(2,.bool (decide (b.k≠1)))] (λM=>M) 0 4 1 [] λa1 Y E n I L U=>bu F a n E 9 175 #[.iface 168 (ptr q)] λV i=>uB F A R (.inr ⟨O,d⟩) E.sat (by omega) λl S v=>i _ _ _ S λm p u g c=>fin a k m l p (u.dB _ rfl) g c (by omega)
theorem Sat.Ug{P:aW}{r a:aH}(h:Sat Ok w (P++(r::a::C))):Sat Ok w (P++(r::fR ⟨jC.g,0,none⟩ 1 jC.v (jC.o+jC.c) true::C)):=by
 have a:Sat Ok w (fR ⟨jC.g,0,none⟩ 1 jC.v (jC.o+jC.c) true::((P++[r])++C)):=Sat.ff (h.sub (by simp)) rfl rfl;have b:=Sat.back (A:=P++[r]) a;simp_all
theorem MP(F:aB prog H (DX Ok) Ψ)(l:HB B Ok){f:Fb}(a:qR y (s.l.gt j) 1000000000000 0)(p:Sat Ok w (pM s++(mI lb (s.l.gt j) f++C)))(L:Has C (tQ lb wi j s.k.J))(J:Has C (wF T s.k.A t Q))(I:Has C (oR lb 3 [i6 y.a,i6 y.b,i6 y.c,i6 y.d,i6 y.e] false))(x:Vc Ok s.ea s.l.el s.ec)(E:qv Ok (s.l.gt j).la f)(b:B<=w.heap.size)(i:s.l.el<1000000)(K:(s.l.tk t).c=t)(b:0<=s.l.now/\s.l.now<1000000000000)(b:1<=y.e/\y.e<=9)(D:((s.l.gt j).st=1/\s.l.now-(s.l.gt j).si<y.d)\/((s.l.gt j).st=2/\(s.l.gt j).pr=y.e)->∀w',Sat Ok w' (pM s++(mI lb (s.l.gt j) f++C))->w.heap.size<=w'.heap.size->Ψ (G (cf.finish (.bool false)) cs) w')(K2:¬(((s.l.gt j).st=1/\s.l.now-(s.l.gt j).si<y.d)\/((s.l.gt j).st=2/\(s.l.gt j).pr=y.e))->∀g c h b w',Sat Ok w' (pM {s with ea:=g,ec:=c,vv:=h,f:=upd s.f j b,l:=(s.l.aM t j).cz j}++(mI lb (((s.l.aM t j).cz j).gt j) b++C))->Vc Ok g ((s.l.aM t j).cz j).el c->qv Ok (((s.l.aM t j).cz j).gt j).la b->w.heap.size<=w'.heap.size->Ψ (G (cf.finish (.bool true)) cs) w'):
 Ψ (G (Frame.enter prog 171 #[ptr lb,ptr T] .normal) (cf::cs)) w:=by
 have b:=a.si;have b:=a.pd;have b:=a.pr;have b:IntKind.wrap .i64 (s.l.now-(s.l.gt j).si)=s.l.now-(s.l.gt j).si:=aA (by omega) (by omega);have v:IntKind.wrap .i64 ((s.l.gt j).pr+1)=(s.l.gt j).pr+1:=aA (by omega) (by omega);have e:(s.l.gt j).st=0\/(s.l.gt j).st=1\/(s.l.gt j).st=2:=by rcases a.st with ⟨z,_⟩|⟨z,_⟩|⟨z,_⟩<;>omega
 have a:=p;obtain⟨A,k⟩:∃A,A=su f (s.l.gt j).la.length:=⟨_,rfl⟩;simp only[mI,<-k]at p D;replace p:=(p.get ((J.cons.cons).app (pM s))).get ((I.cons.cons.app (pM s)).cons);refine cJ func171 p 51 λa a a a a c b r g=>?_;rcases e with u|u|u
 .have m:s.l.aM t j=s.l:=by unfold LS.aM;simp_all
  have q:s.l.cz j=s.l:=by unfold LS.cz;simp_all
  rw[m,q]at K2;refine oH F l a c b r 39 [9,0,0,1,9,0,0,1] [0,0,0,0,0,0,0,0,0,0,0,0,1,0,0] [17] 4 (.bool true) (λM=>M) 0 39 8 [17] [((s.l.gt j).st==2,false),((s.l.gt j).st==1,false),((s.l.gt j).st==1,false),((s.l.gt j).st==1,false),((s.l.gt j).st==1,false),((s.l.gt j).st==1,false),((s.l.gt j).st==1,false),((s.l.gt j).st==1,false),((s.l.gt j).st==1,false),((s.l.gt j).st==1,false),((s.l.gt j).st==1,false),((s.l.gt j).st==1,false),((s.l.gt j).st==1,false),((s.l.gt j).st==1,false)] [] [] λe d g h=>K2 (λz=>by omega) s.ea s.ec s.vv f e ?_ x E (by omega);simp only[mI,<-k];exact d.sat.tail.tail
 .by_cases n:s.l.now-(s.l.gt j).si<y.d
  .refine oH F l a c b r 31 [9,0,0,1,1,0,0,1,2,0,0,1,9,0,1,1,0,0,3,1,9,0,0,1] [2,2,2,2,2,2,2,2,2,2,2,2,0,2] [17] 4 (.bool false) (λM=>M) 0 31 6 [17] [((s.l.gt j).st==1,true),(decide (IntKind.wrap .i64 (s.l.now-(s.l.gt j).si)≥y.d),false),((s.l.gt j).st==1,true),((s.l.gt j).st==1,true),((s.l.gt j).st==1,true),((s.l.gt j).st==1,true),((s.l.gt j).st==1,true),((s.l.gt j).st==1,true),((s.l.gt j).st==1,true),((s.l.gt j).st==1,true),((s.l.gt j).st==1,true),((s.l.gt j).st==1,true),((s.l.gt j).st==1,true),((s.l.gt j).st==1,true)] [] [] λe d g h=>D (.inl ⟨u,n⟩) e d.sat.tail.tail (by omega)
  .have m:s.l.aM t j=(s.l.aO j ((s.l.gt j).turn s.l.now 2)).say t j 10 0:=by unfold LS.aM;simp_all
   have n:((s.l.aM t j).gt j)=(s.l.gt j).turn s.l.now 2:=by rw[m];exact r7 ..
   have o:((s.l.aM t j).gt j).st=2:=by rw[n];rfl
   have q:(s.l.aM t j).cz j=(s.l.aM t j).aO j {(s.l.aM t j).gt j with pr:=((s.l.aM t j).gt j).pr+1}:=by unfold LS.cz;simp_all
   rw[q,r7,n,m]at K2;refine aX F l a b r 14 [9,0,0,1,1,0,0,1,2,0,0,1,9,0,1,1,0,0,3,1] [2,2,2,2,2,2,2,2,2,2,2,2,2] [17] [(25,ptr T),(24,ptr lb),(0,ptr lb)] (λM=>M) 0 14 3 [17] [(decide (IntKind.wrap .i64 (s.l.now-(s.l.gt j).si)≥y.d),true),((s.l.gt j).st==1,true),((s.l.gt j).st==1,true),((s.l.gt j).st==1,true),((s.l.gt j).st==1,true),((s.l.gt j).st==1,true),((s.l.gt j).st==1,true),((s.l.gt j).st==1,true),((s.l.gt j).st==1,true),((s.l.gt j).st==1,true),((s.l.gt j).st==1,true),((s.l.gt j).st==1,true),((s.l.gt j).st==1,true)] [] [] λn e d n g h o=>bu F a n d 26 174 #[ptr lb,i6 2,ptr T,i6 10] λn o=>oB F l d.sat.tail.tail L.cons J.cons x (by omega) i K (by omega) λG i n w J w B=>o _ _ _ (J.get (I.cons.cons.app (pM _))) λo o I o B=>oH F l a c o I 44 [8,0,0,1,8,0,3,1,0,0,4,1,8,0,3,1,8,0,3,1] [1,3,0] [8] 4 (.bool true) (λM=>bh 8 (0,3) (i6 1) (M)) 0 59 21 [17,8] [(0==y.e,false)] [] [] λB I o o=>K2 (λz=>by omega) (some ⟨G,0,none⟩) i n jC B ?_ w Zj (by omega);have o:Sat Ok B (oR lb 3 [i6 y.a,i6 y.b,i6 y.c,i6 y.d,i6 y.e] false::(pM (s.dI G i n (s.l.say t j 10 0))++(oR lb 8 [i6 2,i6 s.l.now,i6 ((s.l.gt j).pd+1),i6 1,.slice none 0 0] true::fR ⟨f.g,0,none⟩ 1 f.v (f.o+f.c) true::C))):=I.sat.cast (by kernel_rfl);exact Sat.Ug o.tail
 .have m:s.l.aM t j=s.l:=by unfold LS.aM;simp_all
  have q:s.l.cz j=s.l.aO j {s.l.gt j with pr:=(s.l.gt j).pr+1}:=by unfold LS.cz;simp_all
  rw[m,q,r7]at K2;by_cases i:(s.l.gt j).pr=y.e
  .refine oH F l a c b r 43 [9,0,0,1,9,0,0,1,9,0,3,1,0,0,4,1] [0,0,0,0,0,0,0,0,0,0,0,0,1,0,2,2] [17,8] 4 (.bool false) (λM=>M) 0 43 28 [17,8] [((s.l.gt j).pr==y.e,true),((s.l.gt j).st==2,true),((s.l.gt j).st==1,false),((s.l.gt j).st==1,false),((s.l.gt j).st==1,false),((s.l.gt j).st==1,false),((s.l.gt j).st==1,false),((s.l.gt j).st==1,false),((s.l.gt j).st==1,false),((s.l.gt j).st==1,false),((s.l.gt j).st==1,false),((s.l.gt j).st==1,false),((s.l.gt j).st==1,false),((s.l.gt j).st==1,false),((s.l.gt j).st==1,false)] [] [] λe d g h=>D (.inr ⟨u,i⟩) e d.sat.tail.tail (by omega)
  .refine oH F l a c b r 55 [9,0,0,1,9,0,0,1,9,0,3,1,0,0,4,1,9,0,3,1,9,0,3,1] [0,0,0,0,0,0,0,0,0,0,0,0,1,0,2,0] [17,8] 4 (.bool true) (λM=>bh 9 (0,3) (i6 (IntKind.wrap .i64 ((s.l.gt j).pr+1))) (M)) 0 55 20 [17,8] [((s.l.gt j).pr==y.e,false),((s.l.gt j).st==2,true),((s.l.gt j).st==1,false),((s.l.gt j).st==1,false),((s.l.gt j).st==1,false),((s.l.gt j).st==1,false),((s.l.gt j).st==1,false),((s.l.gt j).st==1,false),((s.l.gt j).st==1,false),((s.l.gt j).st==1,false),((s.l.gt j).st==1,false),((s.l.gt j).st==1,false),((s.l.gt j).st==1,false),((s.l.gt j).st==1,false),((s.l.gt j).st==1,false)] [] [] λe d g h=>?_;rw[v]at d;refine K2 (λz=>by omega) s.ea s.ec s.vv f e ?_ x E (by omega);simp only[mI,<-k];have o:Sat Ok e (oR lb 3 [i6 y.a,i6 y.b,i6 y.c,i6 y.d,i6 y.e] false::wF T s.k.A t Q::(pM s++(oR lb 8 [i6 (s.l.gt j).st,i6 (s.l.gt j).si,i6 (s.l.gt j).pd,i6 ((s.l.gt j).pr+1),A] true::fR ⟨f.g,0,none⟩ 1 f.v (f.o+f.c) true::C))):=d.sat.cast (by kernel_rfl);exact o.tail.tail
structure LG(t j:Nat)(L L':LS):Prop where
 al:L'.al=L.al
 ag:L'.ag=L.ag
 wl:L'.wl=L.wl
 wt:L'.wt=L.wt
 now:L'.now=L.now
 tl:L'.tl=L.tl
 us:L'.us=L.us
 ou:L'.ou=L.ou
 tk:∀i,i≠t->L'.tk i=L.tk i
 tc:(L'.tk t).c=(L.tk t).c
 ta:(L'.tk t).a=(L.tk t).a
 tq:∀i,i≠j->(L'.tk t).q i=(L.tk t).q i
 gt:∀i,i≠j->L'.gt i=L.gt i
theorem LG.bY{L:LS}:LG t j L L:=⟨rfl,rfl,rfl,rfl,rfl,rfl,rfl,rfl,λ_ _=>rfl,rfl,rfl,λ_ _=>rfl,λ_ _=>rfl⟩
theorem LG.trans{t j:Nat}{L c b:LS}(h:LG t j L c)(a:LG t j c b):LG t j L b:=⟨a.al.trans h.al,a.ag.trans h.ag,a.wl.trans h.wl,a.wt.trans h.wt,a.now.trans h.now,a.tl.trans h.tl,a.us.trans h.us,a.ou.trans h.ou,λi b=>(a.tk i b).trans (h.tk i b),a.tc.trans h.tc,a.ta.trans h.ta,λi b=>(a.tq i b).trans (h.tq i b),λi b=>(a.gt i b).trans (h.gt i b)⟩
theorem LG.say{t j:Nat}{L:LS}(a b c:Int):LG t j L (L.say t a b c):=⟨rfl,rfl,rfl,rfl,rfl,rfl,rfl,rfl,λ_ _=>rfl,rfl,rfl,λ_ _=>rfl,λ_ _=>rfl⟩
theorem LG.aO{t j:Nat}{L:LS}(g:Gt):LG t j L (L.aO j g):=⟨rfl,rfl,rfl,rfl,rfl,rfl,rfl,rfl,λ_ _=>rfl,rfl,rfl,λ_ _=>rfl,λi a=>by simp[LS.aO,upd,a]⟩
theorem LG.mark{t j:Nat}{L:LS}:LG t j L (L.mark t j):=⟨rfl,rfl,rfl,rfl,rfl,rfl,rfl,rfl,λi a=>by simp[LS.mark,upd,a],by simp[LS.mark,upd],by simp[LS.mark,upd],λi a=>by simp[LS.mark,upd,a],λ_ _=>rfl⟩
theorem LG.Tf{L:LS}:LG t j L ((L.aM t j).cz j):=by
 have a:LG t j L (L.aM t j):=by
  unfold LS.aM;split
  .exact(LG.aO _).trans (LG.say ..)
  .exact LG.bY
 refine a.trans ?_;unfold LS.cz;split
 .exact LG.aO _
 .exact LG.bY
theorem LG.count{t j:Nat}{L:LS}(y:ju)(b:Bk):LG t j L (L.count y t j b):=by
 unfold LS.count;split
 .exact LG.bY
 .split
  .exact LG.aO _
  .dsimp only;split
   .exact(LG.aO _).trans (LG.say ..)
   .split
    .exact(LG.aO _).trans (LG.say ..)
    .exact LG.aO _
theorem pQ(A G R O:aW)(a:aH):(A++(a::(R++(G++O)))).Perm (A++(G++(a::(R++O)))):=by
 refine eN A ?_;have h:=fA (a::R) G O;simpa using h
theorem Cn.open{p:γ}{v:ay}(C:Cn E D t p s w v R)(c:j<D.V.nl):Sat (E.Ok p) w (pM s++(gR (D.V.ly j) (D.lb j) (s.l.gt j) (s.f j) (s.lq j)++(dO (D.T t) v false::(R++(gX s j++E.O p))))):=by
 have a:=C.hk;have b:=Yo s (k:=j) (by rw[a];exact c);rw[a]at b;refine(C.sat.perm ?_).perm (pQ ..);refine eN _ (List.Perm.cons _ (eN _ ?_));rw[<-dU];exact b.append_right _
theorem Cn.shut{p:γ}{v:ay}(C:Cn E D t p s w v R)(B:j<D.V.nl){ea:eP}{ec:Nat}{vv:eX}{f':Fb}{L':LS}(b:LG t j s.l L')(h:Sat (E.Ok p) w' (pM {s with ea:=ea,ec:=ec,vv:=vv,f:=upd s.f j f',l:=L'}++(gR (D.V.ly j) (D.lb j) (L'.gt j) f' (s.lq j)++(dO (D.T t) v false::(R++(gX s j++E.O p))))))(A:Vc (E.Ok p) ea L'.el ec)(y:(D.V.ly j).k=4->qv (E.Ok p) (L'.gt j).la f')(u:(D.V.ly j).k=5->f'=s.f j)(z:w.heap.size<=w'.heap.size):Cn E D t p {s with ea:=ea,ec:=ec,vv:=vv,f:=upd s.f j f',l:=L'} w' v R:=by
 have n:=C.hk;obtain⟨d,a⟩:∃d:PS,d={s with ea:=ea,ec:=ec,vv:=vv,f:=upd s.f j f',l:=L'}:=⟨_,rfl⟩;have c:d.k=D:=by rw[a];exact n
 have l:d.f j=f':=by rw[a];simp[upd]
 have p:gX d j=gX s j:=K3 (by rw[a]) (λi o=>by rw[a];exact b.gt i o) (λi o=>by rw[a];simp[upd,o]) (by rw[a];exact⟨b.wl,λi _=>by unfold wR;simp only[b.wt]⟩) (by rw[a]);have x:d.l=L':=by rw[a]
 have r:=Yo d (k:=j) (by rw[c];exact B);rw[c,l,x,p,show d.lq=s.lq by rw[a]]at r;have t:∀i,fF d i=fF s i:=λi=>by rw[a];unfold fF;simp only[b.ag]
 have p:bA d=bA s:=by unfold bA;rw[show d.q=s.q by rw[a]];exact u7 λi _=>t i
 rw[<-a]at h ⊢;refine⟨(h.perm (pQ ..).symm).perm ?_,⟨by rw[a];exact A,by rw[p,a];exact C.pv.en,by rw[a];exact C.pv.eo,λk f m=>?_,λk f g=>?_,by rw[a];exact C.pv.cx⟩,?_,C.fl,C.eH,aT C.bd z,C.gu.trans (by rw[a];exact⟨rfl,rfl,rfl,b.al,b.ag,b.wl,b.wt,b.now,b.tl,b.tk,λi _=>by rw[b.us],λi _=>⟨by rw[b.ou],rfl⟩⟩),c,λk f g=>by rw[a];simp only[b.wl,b.wt];exact C.ln k f g⟩
 .refine eN _ (List.Perm.cons _ (eN _ ?_));rw[<-dU];exact(r.append_right _).symm
 .by_cases e:k=j
  .subst e;rw[l,x];exact y (by rw[<-c];exact m)
  .have:=C.pv.fb k (by rw[n,<-c];exact f) (by rw[n,<-c];exact m);rw[x,b.gt k e];rw[show d.f k=s.f k by rw[a];simp[upd,e]];exact this
 .have:=C.pv.rm k (by rw[n,<-c];exact f) (by rw[n,<-c];exact g);rw[show d.lq=s.lq by rw[a],show d.wb=s.wb by rw[a]];by_cases e:k=j
  .subst e;rw[l,u (by rw[<-c];exact g)];exact this
  .rw[show d.f k=s.f k by rw[a];simp[upd,e]];exact this
 .have q:=C.qi;rw[a];exact⟨λi o=>by simp only[b.al,b.ag];exact q.lt i o,λi r a=>q.all i (by simpa only[b.al]using r) (by simpa only[b.ag]using a),by simp only[b.ag];exact q.pN,by first|exact q.ws|(have:=q.ws;simpa only[b.ag,b.al,b.wl,b.wt,b.now]using this),by first|exact q.cv|(have:=q.cv;simpa only[b.ag]using this),by simp only[b.wl,b.wt];exact q.wt⟩
theorem Gk{L:LS}(a:j<V.nl)(b:(V.ly j).k=3)(h:Fin V Z m (some (t,j,none)) L):∃a,m=a+1/\qm V t L/\
 ((L.gt j).sm=true/\(L.gt j).nx-L.now>((V.ly j).b-1)*(V.ly j).a->Fin V Z a (some (t,j,some (c9 3 j 0))) (L.say t j 7 0))/\
 (¬((L.gt j).sm=true/\(L.gt j).nx-L.now>((V.ly j).b-1)*(V.ly j).a)->Fin V Z a (some (t,j+1,none)) ((L.aO j {L.gt j with sm:=true,nx:=(if(L.gt j).sm=false\/(L.gt j).nx<L.now then L.now else(L.gt j).nx)+(V.ly j).a}).say t j 6 0)):=by
 cases m with
 |zero=>exact h.elim
 |succ m=>
  obtain⟨a,d,d,c⟩:=h;have e:(j=V.nl)=False:=by simp;omega
  refine⟨m,rfl,a,λa=>?_,λa=>?_⟩
  .simp only[LS.step,e,if_false,b,af (show¬(3:Int)=1 by decide),if_true,LS.jg,LS.nV]at c;simp_all
  .simp only[LS.step,e,if_false,b,af (show¬(3:Int)=1 by decide),if_true,LS.jg,LS.nV]at c;grind
theorem CV{L:LS}(c:(V.ly j).k=3)(h:Fin V Z m (some (t,j+1,some b)) L):∃a,m=a+1/\qm V t L/\G5 b/\Fin V Z a (some (t,j,some b)) L:=by
 cases m with
 |zero=>exact h.elim
 |succ m=>
  obtain⟨a,a,a,d⟩:=h;have e:(j+1=0)=False:=by simp
  simp only[LS.step,e,if_false,eM,c,af (show¬(3:Int)=1 by decide),af (show¬(3:Int)=4 by decide),af (show¬((3:Int)=2/\b.k=3) by omega)]at d;simp_all
theorem rL(W:jF E D Z t){p:γ}{v:ay}(C:Cn E D t p s w v R)(b:j<D.V.nl)(e:qm D.V t s.l){c:aC}(K:∀a w' q,Cn E D t p a w' v (oR q 0 [i6 3,i6 j,i6 0,.nilIface] false::R)->a.l=s.l.say t j 7 0->w.heap.size<=w'.heap.size->E.Ψ p (G (c.finish (.tuple #[i6 0,.iface 168 (ptr q)])) cs) w'):
 E.Ψ p (G (Frame.enter prog 168 #[ptr (D.lb j),ptr (D.T t)] .normal) (c::cs)) w:=by
 have F:=W.f p;have h:=W.hB p;have a:=C.bd;have a:=C.sat;have c:=C.eH.lay j b;refine cJ func168 a 13 λa a a a a g b f d=>aq F h a b f 9 [] [] [] [(7,ptr (D.T t)),(6,ptr (D.lb j)),(0,ptr (D.lb j))] (λM=>M) 0 9 1 [] λb b f b d d d=>bu F a b f 8 149 #[ptr (D.lb j),ptr (D.T t),i6 7,i6 0] λb d=>iU W {C with sat:=f.sat,bd:=by omega} e.el e.tc c λe b b l f=>d _ _ _ (b.sat.get ((c.pre _).cons.app (pM e))) λc c i f d=>?_;have d:=b.bd;obtain⟨U,d,_⟩:=xT D (j+1);rw[d]at i;refine aq F h a f i 43 [0,0,1,1] [] [] [(5,.iface 168 (ptr c)),(4,i6 0)] (λM=>bR (c) [i6 3,i6 j,i6 0,.nilIface]::(M)) 1 20 1 [] λd h f d k k k=>cC F f a g d [] (.tuple #[i6 0,.iface 168 (ptr c)]) ?_;exact K e h c ⟨((Sat.BC (A:=[oR c 0 [i6 3,i6 j,i6 0,.nilIface] false]) f.sat.fix).perm (gY (A:=pM e))),b.pv,b.qi,b.fl.cons rfl,b.eH.cons,by omega,b.gu,b.hk,b.ln⟩ l (by omega)
theorem Mq(W:jF E D Z t)(l:j<D.V.nl)(hk:(D.V.ly j).k=3)(IH:dV E D Z t (j+1)):dV E D Z t j:=by
 intro m p s w v R c cs C hf m K;rw[show iq D.V j=167 by unfold iq;grind];have F:=W.f p;have P:=W.hB p;have m:=C.bd;obtain⟨m0,rfl,hs,Hh,Vv⟩:=Gk l hk hf;have hg:=hs.gt j l (by omega);have m:=W.V.ra j l hk;have m:=hs.now;have m:=hg.nx;have m:0<=((D.V.ly j).b-1)*(D.V.ly j).a:=YE (by omega) (by omega);have m:((D.V.ly j).b-1)*(D.V.ly j).a<=19*1000:=YT (by omega) (by omega) (by omega) (by omega);have Dz:IntKind.wrap .i64 ((s.l.gt j).nx-s.l.now)=(s.l.gt j).nx-s.l.now:=aA (by omega) (by omega);have Qf:IntKind.wrap .i64 ((D.V.ly j).b-1)=(D.V.ly j).b-1:=aA (by omega) (by omega);have Vw:IntKind.wrap .i64 (((D.V.ly j).b-1)*(D.V.ly j).a)=((D.V.ly j).b-1)*(D.V.ly j).a:=aA (by omega) (by omega);have m:gR (D.V.ly j) (D.lb j) (s.l.gt j) (s.f j) (s.lq j)=[oR (D.lb j) 5 [i6 (s.l.gt j).nx] true]:=by unfold gR;simp_all
 have hS:=C.open l;rw[m]at hS;have hkk:=C.hk;have hA:s.k.A=D.A:=by rw[hkk]
 have Xm:=C.eH.nH t W.tn;rw[<-hA]at Xm;have u:=C.eH.lay j l;replace hS:=(hS.get (((Xm.pre _).cons.cons).app (pM s))).get (((((C.eH.Mi j l hk).pre _).cons.cons).app (pM s)).cons);have back:∀k:World,Sat (E.Ok p) k (pM s++([oR (D.lb j) 5 [i6 (s.l.gt j).nx] true]++(dO (D.T t) v false::(R++(gX s j++E.O p)))))->w.heap.size<=k.heap.size->Cn E D t p s k v R:=λk h w=>by
  have:=C.shut (ea:=s.ea) (ec:=s.ec) (vv:=s.vv) (f':=s.f j) (L':=s.l) l LG.bY (w':=k) (by rw[m,fU];exact h) C.pv.jr (λz=>by omega) (λ_=>rfl) w;rw[fU]at this;exact this
 refine cJ func167 hS 60 λbb m m hn a n tN S0 m=>?_;by_cases hc:(s.l.gt j).sm=true/\(s.l.gt j).nx-s.l.now>((D.V.ly j).b-1)*(D.V.ly j).a
 .have m:decide (IntKind.wrap .i64 ((s.l.gt j).nx-s.l.now)>IntKind.wrap .i64 (IntKind.wrap .i64 ((D.V.ly j).b-1)*(D.V.ly j).a))=true:=by simp_all
  refine aX F P a tN S0 17 [9,0,0,1,1,0,0,1,2,0,0,1,0,0,1,1,0,0,0,1] [2] [17] [(27,ptr (D.T t)),(26,ptr (D.lb j))] (λM=>M) 0 17 3 [17] [(decide (IntKind.wrap .i64 ((s.l.gt j).nx-s.l.now)>IntKind.wrap .i64 (IntKind.wrap .i64 ((D.V.ly j).b-1)*(D.V.ly j).a)),true)] [] [] λa1 k S L zS Dx o9=>bu F a L S 28 168 #[ptr (D.lb j),ptr (D.T t)] λyS g=>rL W (back k S.sat.tail.tail (by omega)) l hs λs2 w2 q T o yP=>g _ _ _ T.sat λa2 B2 S2 J tM=>?_;have Nx:=T.bd;refine aq F P a J S2 5 [] [] [] [(5,.iface 168 (ptr q)),(4,i6 0)] (λM=>M) 0 23 3 [17] λa3 w3 S3 I YF yO mH=>cC F S3 a n I [] (.tuple #[i6 0,.iface 168 (ptr q)]) ?_;have YR:=Hh hc;rw[<-o]at YR;exact K m0 p s2 w3 v [oR q 0 [i6 3,i6 j,i6 0,.nilIface] false] (.inl (.tuple #[i6 0,.iface 168 (ptr q)])) (c9 3 j 0) (by omega) (by omega) {T with sat:=S3.sat,bd:=by omega} YR (.inr (.inl ⟨rfl,_,rfl,q,.nilIface,rfl,⟨rfl,0,rfl⟩,rfl⟩)) (λi hi=>by rw[o];rfl) (λi hi=>by rw[o];rfl)
 .have m:decide (IntKind.wrap .i64 ((s.l.gt j).nx-s.l.now)>IntKind.wrap .i64 (IntKind.wrap .i64 ((D.V.ly j).b-1)*(D.V.ly j).a))=false:=by
   rw[Dz,Qf,Vw];cases x:(s.l.gt j).sm with
   |true=>simp_all
   |false=>have:=hg.sm x;simp;omega
  refine aX F P a tN S0 24 [9,0,0,1,1,0,0,1,2,0,0,1,0,0,1,1,0,0,0,1,9,0,0,1,1,0,0,1,2,0,0,1,0,0,0,1,9,0,0,1] [0] [17,13] [(49,ptr (D.T t)),(48,ptr (D.lb j)),(0,ptr (D.lb j)),(1,ptr (D.T t))] (λM=>bh 9 (0,0) (i6 (IntKind.wrap .i64 ((if s.l.now>(s.l.gt j).nx then s.l.now else(s.l.gt j).nx)+(D.V.ly j).a))) (M)) 0 24 2 [17,13] [(decide (IntKind.wrap .i64 ((s.l.gt j).nx-s.l.now)>IntKind.wrap .i64 (IntKind.wrap .i64 ((D.V.ly j).b-1)*(D.V.ly j).a)),false)] [] [] λa1 k S L zS Dx o9=>?_;have U4:IntKind.wrap .i64 ((if s.l.now>(s.l.gt j).nx then s.l.now else(s.l.gt j).nx)+(D.V.ly j).a)=(if(s.l.gt j).sm=false\/(s.l.gt j).nx<s.l.now then s.l.now else(s.l.gt j).nx)+(D.V.ly j).a:=by
   have e1:(if s.l.now>(s.l.gt j).nx then s.l.now else(s.l.gt j).nx)=(if(s.l.gt j).sm=false\/(s.l.gt j).nx<s.l.now then s.l.now else(s.l.gt j).nx):=by
    cases x:(s.l.gt j).sm with
    |true=>simp
    |false=>have:=hg.sm x;omega
   rw[<-e1,aA]
   .omega
   omega
  rw[U4]at S;obtain⟨Q,FU⟩:∃Q:Gt,Q={s.l.gt j with sm:=true,nx:=(if(s.l.gt j).sm=false\/(s.l.gt j).nx<s.l.now then s.l.now else(s.l.gt j).nx)+(D.V.ly j).a}:=⟨_,rfl⟩;have d:=Vv hc;rw[<-FU]at d;have m:(if(s.l.gt j).sm=false\/(s.l.gt j).nx<s.l.now then s.l.now else(s.l.gt j).nx)+(D.V.ly j).a=Q.nx:=by rw[FU]
  rw[m]at S;have m:Sat (E.Ok p) k (oR (D.lb j) 3 [i6 (D.V.ly j).a,i6 (D.V.ly j).b] false::wF (D.T t) s.k.A t (D.aS t)::(pM s++([oR (D.lb j) 5 [i6 Q.nx] true]++(dO (D.T t) v false::(R++(gX s j++E.O p)))))):=S.sat.cast (by kernel_rfl);have w:=C.shut (ea:=s.ea) (ec:=s.ec) (vv:=s.vv) (f':=s.f j) (L':=s.l.aO j Q) l (LG.aO Q) (w':=k) (by rw[r7];unfold gR;rw[ah hk];exact m.tail.tail) C.pv.jr (λz=>by omega) (λ_=>rfl) (by omega);refine bu F a L S 50 149 #[ptr (D.lb j),ptr (D.T t),i6 6,i6 0] λyS g=>iU W w hs.el hs.tc u λs2 w2 T o yP=>g _ _ _ (T.sat.get ((u.pre _).cons.app (pM s2))) λa2 B2 S2 J tM=>?_;have Nx:=T.bd;replace o:s2.l=(s.l.aO j Q).say t j 6 0:=o;rw[<-o]at d;obtain⟨U,g,IZ⟩:=xT D (j+1);rw[g]at S2;unfold dV at IH;generalize iq D.V (j+1)=gf at*;refine aq F P a J S2 9 [0,0,0,1] [] [] [(56,ptr (D.T t)),(55,.iface U (.pointer (some (Addr.mk (D.lb (j+1)) 0 none))))] (λM=>M) 0 34 2 [17,13] λa3 w3 S3 I YF yO mH=>GM F a I 57 gf #[ptr (D.lb (j+1)),ptr (D.T t)] (by rcases IZ with ⟨rfl,rfl⟩|⟨rfl,rfl⟩|⟨rfl,rfl⟩|⟨rfl,rfl⟩|⟨rfl,rfl⟩|⟨rfl,rfl⟩<;>kernel_rfl) (by kernel_rfl) (by decide) S3 λcf N=>IH m0 p s2 w3 v R cf (c::cs) {T with sat:=S3.sat.tail,bd:=by omega} d (by omega) λg V s' w' v' X r b g g Y g hr Jc DG=>?_;obtain⟨m1,rfl,k,Hj,B⟩:=CV hk g;have g:=Y.bd;replace F:=W.f V;replace P:=W.hB V;have O:∀i,i<j->(s'.l.tk t).a i=(s.l.tk t).a i:=λi hi=>(Jc i (by omega)).trans (by rw[o];rfl);have A:∀i,i<j->(s'.l.tk t).q i=(s.l.tk t).q i:=λi hi=>(DG i (by omega)).trans (by rw[o];rfl);rcases hr with ⟨hb,rfl⟩|⟨hb,e,rfl,he⟩|⟨hb,rfl⟩
  .refine N.ret _ _ _ _ _ Y.sat λa4 B4 S4 f Bj=>aq F P a f S4 5 [] [] [] [(5,.nilIface),(4,i6 b.n)] (λM=>M) 0 40 2 [17,13] λa5 w5 S5 H Y5 Dw qO=>cC F S5 a n H [] (.tuple #[i6 b.n,.nilIface]) ?_;exact K m1 V s' w5 v' X (.inl (.tuple #[i6 b.n,.nilIface])) b (by omega) (by omega) {Y with sat:=S5.sat,bd:=by omega} B (.inl ⟨hb,rfl⟩) O A
  .obtain⟨q,rfl⟩:∃q,e=.iface 168 (ptr q):=by
    cases mQ:b.ch with
    |nil=>
     rcases Hj.2.2 with ⟨z,_⟩|⟨_,_,z⟩|⟨z,_⟩
     .omega
     .grind
     .omega
    |cons y ch=>rw[mQ]at he;obtain⟨q,_,h,_⟩:=he;grind
   refine N.ret _ _ _ _ _ Y.sat λa4 B4 S4 f Bj=>aq F P a f S4 5 [] [] [] [(5,.iface 168 (ptr q)),(4,i6 0)] (λM=>M) 0 40 2 [17,13] λa5 w5 S5 H Y5 Dw qO=>cC F S5 a n H [] (.tuple #[i6 0,.iface 168 (ptr q)]) ?_;exact K m1 V s' w5 v' X (.inl (.tuple #[i6 0,.iface 168 (ptr q)])) b (by omega) (by omega) {Y with sat:=S5.sat,bd:=by omega} B (.inr (.inl ⟨hb,_,rfl,he⟩)) O A
  .obtain⟨a4,t4,rfl,f,a⟩:=N.NO;show E.Ψ V (G ((bb.at a4 t4).raise (je (.iface 166 (i6 b.n)))) (c::cs)) w';rw[raise_at hn.m];refine F.lJ f (by rw[n];rfl) ?_;exact K m1 V s' w' v' X (.inr (.iface 166 (i6 b.n))) b (by omega) (by omega) Y B (.inr (.inr ⟨hb,rfl⟩)) O A
end Go.Proofs.YtobagnjnbmgidaaGreatDoor
