import Derived.Test.YtobagnjnbmgidaaGreatDoorR2
import Derived.Test.YtobagnjnbmgidaaGreatDoorE28
import Derived.Laws.IdiomCopy
set_option linter.all false
set_option maxHeartbeats 0
set_option maxRecDepth 100000
namespace Go.Proofs.YtobagnjnbmgidaaGreatDoor
open Go.Conc Go.RowKit Tryz
variable{a ad tg:Addr}{b:Bk}{E:Env}{g:Gt}{st:Int}{y:ko}{B' B1 N c c2 hc hl k n nb p t:Nat}{gt:Nat->Gt}{r:aJ}{C:aX}{bb cf:aE}{v:fH}{gb:ru}{L:fL}{gc:cm}{cs:cW}{ho:eN}
variable{main:Bool}{B:Nat}{Ok:dw}{Ψ:gi}{w:aj}{M:aX}
theorem rZ(F:aC prog main (DX Ok) Ψ)(hB:HB B Ok){s:RS}(hS:Sat Ok w (mR s++C))(hv:RV Ok s)(gp:B<=w.heap.size)(x:s.ta=some tg)(ht:t<s.l.tl)(z:s.l.el<1000000000)(K:∀o m w' C' g' cap' vs' nb i,fT Ok B Ψ cf cs o m->(∀i r,nth C i=some r->∃j,nth C' j=some r)->w.heap.size<=w'.heap.size->Sat Ok w' (mR (s.dR g' cap' vs' (s.l.say t k 7 0))++C')->RV Ok (s.dR g' cap' vs' (s.l.say t k 7 0))->B<=nb->nth C' i=some (gZ ⟨nb,0,none⟩ [⟨3,k,0⟩])->Ψ (G (Frame.enter prog 83 #[ptr s.gm,i6 t,i6 k,lu (eB 3 k 0) (.slice (some ⟨nb,0,none⟩) 1 1)] .normal) (o::m)) w'):
 Ψ (G (Frame.enter prog 84 #[ptr s.gm,i6 t,i6 k] .normal) (cf::cs)) w:=by
 refine dg f84 func84 _ rfl 16 (by kernel_rfl) hS λbb a0 B1 hn d Q P S0 iI=>?_
 refine aq F hB d P S0 5 [] [] [] [(8,i6 k),(7,i6 t),(6,ptr s.gm),(0,ptr s.gm),(1,i6 t),(2,i6 k)] (λM=>M) 0 5 [] [] λa1 w1 U O iH jA dS=>?_
 refine bK F d O U 9 82 #[ptr s.gm,i6 t,i6 k,i6 7,i6 0] λgJ l=>?_
 refine kS F hB (s:=s) U.sat hv (by omega) z x ht λg' cap' vs' w2 h2 u je=>l _ _ _ h2 λa2 e S2 J fV=>?_
 refine aq F hB d J S2 22 [1,0,0,3,1,0,0,3] [] [] [(14,.agg #[i6 2,i6 0,.slice (some ⟨e+1,0,none⟩) 1 1]),(12,i6 k),(11,i6 t),(10,ptr s.gm)] (λM=>bR (e+1) [i6 3,i6 k,i6 0]::(bR (e) [i6 2,i6 0,.slice (some ⟨e+1,0,none⟩) 1 1]::(M))) 2 13 [] [] λa3 W T I Z ji dX=>?_
 refine bK F d I T 15 83 #[ptr s.gm,i6 t,i6 k,.agg #[i6 2,i6 0,.slice (some ⟨e+1,0,none⟩) 1 1]] λR f=>?_
 have h3:=Sat.back (A:=mR (RS.dR s g' cap' vs' (s.l.say t k 7 0))) (Sat.back (A:=bR e [i6 2,i6 0,.slice (some ⟨e+1,0,none⟩) 1 1]::mR (RS.dR s g' cap' vs' (s.l.say t k 7 0))) (C:=C) (Sat.Uj T.sat));refine K R _ W _ g' cap' vs' (e+1) 1 (λw4 M h4 L7 hz=>f _ _ _ h4 λa4 B4 S4 H Y=>?_) (λi r h=>⟨i+2,h⟩) (by omega) h3 u (by omega) rfl;refine aq F hB d H S4 1 [] [] [] [] (λM=>M) 0 15 [] [] λa5 V S D X q jv=>?_
 refine cV F S d Q D [] (.tuple #[]) ?_;exact hz V S.sat q
theorem QY{p:eN}(j f:Nat)(h:f<8):(nN (upd gt k g j) (upd gb k p j) (upd gc k c j)).getD f undef=eH (eH (eH (eH (eH (eH (eH (eH (λj f=>(nN (gt j) (gb j) (gc j)).getD f undef) k 0 (.bool g.sm)) k 1 (i6 g.nx)) k 2 (i6 g.st)) k 3 (i6 g.pd)) k 4 (i6 g.si)) k 5 (.slice p g.la.length c)) k 6 (i6 g.pr)) k 7 (i6 0) j f:=by
 unfold eH upd
 by_cases e:j=k
 .subst e
  rcases f with _|_|_|_|_|_|_|_|f
  all_goals first|omega|simp[nN]
 .have d:(j==k)=false:=by simpa using e
  simp[e,d]
theorem EX(h:nth M p=some r)(j:Ix)(v:ay):bu p j v M=cD M p (r.set j v):=by unfold bu;rw[h]
theorem jL:∀(M:aX)(p:Nat)(a b:aJ),cD (cD M p a) p b=cD M p b
 |[],_,_,_=>by simp[cD]
 |_::_,0,_,_=>by simp[cD]
 |_::M,p+1,a,b=>by simp only[cD];rw[jL M p a b]
theorem kF(a:aJ)(h:nth M p=some r):nth (cD M p a) p=some a:=by rw[dP];simp[h]
theorem jm{d:aJ}(h:nth M p=some d)(j:Ix)(v:ay):bu p j v (cD M p r)=cD M p (r.set j v):=by rw[EX (kF r h),jL]
theorem wr8(h:nth M p=some (fR a 8 v n true))(s q o m l i e d:ay):bu p (k,7) d (bu p (k,6) e (bu p (k,5) i (bu p (k,4) l (bu p (k,3) m (bu p (k,2) o (bu p (k,1) q (bu p (k,0) s M)))))))=cD M p {(fR a 8 v n true)with vl:=eH (eH (eH (eH (eH (eH (eH (eH (λj f=>(v j).getD f undef) k 0 s) k 1 q) k 2 o) k 3 m) k 4 l) k 5 i) k 6 e) k 7 d}:=by
 rw[EX h,jm h,jm h,jm h,jm h,jm h,jm h,jm h];rfl
theorem Sat.g8(A:nth M p=some (fR a 8 v n true)){u s q o m l i d:ay}(c:fH)(hc:∀j f,f<8->(c j).getD f undef=eH (eH (eH (eH (eH (eH (eH (eH (λj f=>(v j).getD f undef) k 0 u) k 1 s) k 2 q) k 3 o) k 4 m) k 5 l) k 6 i) k 7 d j f){z x:aJ}(h:Sat Ok w (z::x::bu p (k,7) d (bu p (k,6) i (bu p (k,5) l (bu p (k,4) m (bu p (k,3) o (bu p (k,2) q (bu p (k,1) s (bu p (k,0) u M))))))))):Sat Ok w (z::x::cD M p (fR a 8 c n true)):=by
 rw[wr8 A]at h;have F:=h.re (p+2) (r:={(fR a 8 v n true)with vl:=eH (eH (eH (eH (eH (eH (eH (eH (λj f=>(v j).getD f undef) k 0 u) k 1 s) k 2 q) k 3 o) k 4 m) k 5 l) k 6 i) k 7 d}) (kF _ A) rfl c (λj _ f D=>hc j f D)
 have e:cD (z::x::cD M p {(fR a 8 v n true)with vl:=eH (eH (eH (eH (eH (eH (eH (eH (λj f=>(v j).getD f undef) k 0 u) k 1 s) k 2 q) k 3 o) k 4 m) k 5 l) k 6 i) k 7 d}) (p+2) (fR a 8 c n true)=z::x::cD M p (fR a 8 c n true):=by
  simp only[cD];rw[jL]
 rw[<-e];exact F
theorem jo{α:Type}(f:Nat->α)(k:Nat):upd f k (f k)=f:=by funext j;unfold upd;split<;>simp_all
abbrev RS.AF(s:RS)(k:Nat)(g:Gt):RS:={s with l:=s.l.aS k g}
theorem KQ(F:aC prog main (DX Ok) Ψ)(hB:HB B Ok)(d:bb.kind=.normal)(O:bb.fn=77){s:RS}{Q:Act}(hv:RV Ok s)(hle:B<=B1)(iI:w.heap.size=B1)(J:Q.defers=[])(x:s.ta=some tg)(ht:t<s.l.tl)(z:s.l.el<1000000000)(Vk:k<6)(T:St Ok B1 78 [(71,i6 k),(70,i6 t),(69,ptr s.gm),(0,ptr s.gm),(1,i6 t),(2,i6 k)] (mR s++C) 0 Q w)(K:∀m l w' C' g' cap' vs',fT Ok B Ψ cf cs m l->(∀i r,nth C i=some r->∃j,nth C' j=some r)->w.heap.size<=w'.heap.size->Sat Ok w' (mR (s.dR g' cap' vs' (s.l.say t k 6 0))++C')->RV Ok (s.dR g' cap' vs' (s.l.say t k 6 0))->Ψ (G (Frame.enter prog 58 #[ptr s.gm,i6 t,i6 (k+1:Nat)] .normal) (m::l)) w'):
 Ψ (G (bb.at Q (pc prog 77 57 [false,false] [16,10,6])) (cf::cs)) w:=by
 have q:IntKind.wrap .i64 ((k:Int)+1)=((k+1:Nat):Int):=by rw[aA (by omega) (by omega)];rfl
 refine bK F d J T 72 82 #[ptr s.gm,i6 t,i6 k,i6 6,i6 0] λVC f=>?_
 refine kS F hB (s:=s) T.sat hv (by omega) z x ht λg' cap' vs' w2 h2 u je=>f _ _ _ h2 λa2 B2 S2 I Z=>?_
 refine aq F hB d I S2 6 [] [] [] [(76,i6 (IntKind.wrap .i64 ((↑k:Int)+1))),(74,i6 t),(73,ptr s.gm)] (λM=>M) 0 64 [false,false] [16,10,6] λa3 V R H Y ji dX=>?_
 rw[q]at R;refine bK F d H R 77 58 #[ptr s.gm,i6 t,i6 (↑(k+1):Int)] λP e=>?_
 refine K P _ V _ g' cap' vs' (λw4 M h4 L7 hz=>e _ _ _ h4 λa4 B4 S4 D X=>?_) (λi r h=>⟨i,h⟩) (by omega) R.sat u;refine aq F hB d D S4 1 [] [] [] [] (λM=>M) 0 66 [false,false] [16,10,6] λa5 U S A W o jv=>?_
 refine cV F S d O A [] (.tuple #[]) ?_;exact hz U S.sat o
abbrev A4(y:ko)(now:Int)(g:Gt):Gt:={g with sm:=true,nx:=(if g.sm=false\/g.nx<now then now else g.nx)+y.a}
theorem Sat.gG{s:RS}{e d:aJ}(h:Sat Ok w (e::d::bu 13 (k,7) (i6 0) (bu 13 (k,6) (i6 g.pr) (bu 13 (k,5) (.slice (s.gb k) (List.length g.la) (s.gc k)) (bu 13 (k,4) (i6 g.si) (bu 13 (k,3) (i6 g.pd) (bu 13 (k,2) (i6 g.st) (bu 13 (k,1) (i6 g.nx) (bu 13 (k,0) (.bool g.sm) (mR s++C)))))))))):Sat Ok w (e::d::(mR (s.AF k g)++C)):=
 Sat.g8 (M:=mR s++C) (p:=13) (a:=s.ga) (n:=s.V.nl) (v:=λj=>nN (s.l.gt j) (s.gb j) (s.gc j)) rfl (λj=>nN (upd s.l.gt k g j) (s.gb j) (s.gc j)) (λj f i=>by
  have:=QY (gt:=s.l.gt) (gb:=s.gb) (gc:=s.gc) (k:=k) (g:=g) (p:=s.gb k) (c:=s.gc k) j f i;rw[jo,jo]at this;exact this) h
theorem KO(F:aC prog main (DX Ok) Ψ)(hB:HB B Ok){s:RS}(hS:Sat Ok w (mR s++C))(O:RV Ok s)(gp:B<=w.heap.size)(P:s.ta=some tg)(ht:t<s.l.tl)(Q:s.l.el<1000000000)(hk:k<s.V.nl)(Vk:k<6)(hy:(1<=y.a/\y.a<=1000)/\(1<=y.b/\y.b<=20))(LL:0<=s.l.now/\s.l.now<1000000000000)(hg:sW y (s.l.gt k) 1000000000000 0)(K1:(s.l.gt k).sm=true/\(s.l.gt k).nx-s.l.now>(y.b-1)*y.a->∀l f w' C' g' cap' vs' nb i,fT Ok B Ψ cf cs l f->(∀i r,nth C i=some r->∃j,nth C' j=some r)->w.heap.size<=w'.heap.size->Sat Ok w' (mR (s.dR g' cap' vs' (s.l.say t k 7 0))++C')->RV Ok (s.dR g' cap' vs' (s.l.say t k 7 0))->B<=nb->nth C' i=some (gZ ⟨nb,0,none⟩ [⟨3,k,0⟩])->Ψ (G (Frame.enter prog 83 #[ptr s.gm,i6 t,i6 k,lu (eB 3 k 0) (.slice (some ⟨nb,0,none⟩) 1 1)] .normal) (l::f)) w')(K2:¬((s.l.gt k).sm=true/\(s.l.gt k).nx-s.l.now>(y.b-1)*y.a)->∀l f w' C' g' cap' vs',fT Ok B Ψ cf cs l f->(∀i r,nth C i=some r->∃j,nth C' j=some r)->w.heap.size<=w'.heap.size->Sat Ok w' (mR ((s.AF k (A4 y s.l.now (s.l.gt k))).dR g' cap' vs' ((s.l.aS k (A4 y s.l.now (s.l.gt k))).say t k 6 0))++C')->RV Ok ((s.AF k (A4 y s.l.now (s.l.gt k))).dR g' cap' vs' ((s.l.aS k (A4 y s.l.now (s.l.gt k))).say t k 6 0))->Ψ (G (Frame.enter prog 58 #[ptr s.gm,i6 t,i6 (k+1:Nat)] .normal) (l::f)) w'):
 Ψ (G (Frame.enter prog 77 #[ptr s.gm,i6 t,i6 k,.agg (qR y).toArray] .normal) (cf::cs)) w:=by
 have hg1:=hg.nx;have hsm:=hg.sm;have Av:0<=(y.b-1)*y.a:=rI (by omega) (by omega);have uf:(y.b-1)*y.a<=19*y.a:=Zg (by omega) (by omega);have tZ:IntKind.wrap .i64 (y.b-1)=y.b-1:=aA (by omega) (by omega);have DE:IntKind.wrap .i64 ((y.b-1)*y.a)=(y.b-1)*y.a:=aA (by omega) (by omega);have WD:IntKind.wrap .i64 ((s.l.gt k).nx-s.l.now)=(s.l.gt k).nx-s.l.now:=aA (by omega) (by omega);have K:IntKind.wrap .i64 (s.l.now+y.a)=s.l.now+y.a:=aA (by omega) (by omega);have Y:IntKind.wrap .i64 ((s.l.gt k).nx+y.a)=(s.l.gt k).nx+y.a:=aA (by omega) (by omega)
 have fin:¬((s.l.gt k).sm=true/\(s.l.gt k).nx-s.l.now>(y.b-1)*y.a)->∀(nx:Int),nx=(if(s.l.gt k).sm=false\/(s.l.gt k).nx<s.l.now then s.l.now else(s.l.gt k).nx)+y.a->∀{bb:aE}(d:bb.kind=.normal)(o:bb.fn=77)(r1 X:aJ){D:Act}{x:aj},D.defers=[]->w.heap.size<=x.heap.size->aN [(71,i6 k),(70,i6 t),(69,ptr s.gm),(0,ptr s.gm),(1,i6 t),(2,i6 k)] 78 D->
  Sat Ok x (r1::X::(mR (s.AF k {s.l.gt k with sm:=true,nx:=nx})++C))->Ψ (G (bb.at D (pc prog 77 57 [false,false] [16,10,6])) (cf::cs)) x:=by
  intro hc nx ZU bb d o r1 X D x e m hA Z;subst ZU;refine KQ F hB d o (s:=s.AF k (A4 y s.l.now (s.l.gt k))) (tg:=tg) ⟨O.a,O.t,O.w,O.e⟩ (by omega) rfl e P ht Q Vk ⟨hA,Sat.back (A:=mR (s.AF k (A4 y s.l.now (s.l.gt k)))) (Sat.back (A:=X::mR (s.AF k (A4 y s.l.now (s.l.gt k)))) Z),rfl⟩ λl f w' C' g' cap' vs' W V z3 U T=>?_
  exact K2 hc l f w' C' g' cap' vs' W (λi r h=>V (i+2) r h) (by omega) U T
 refine dg f77 func77 _ rfl 78 (by kernel_rfl) hS λbb a0 B1 hn d o u S iI=>?_
 by_cases hc:(s.l.gt k).sm=true/\(s.l.gt k).nx-s.l.now>(y.b-1)*y.a
 .refine bA F hB d u S 28 [1,0,7,1,14,k,0,108,0,0,0,8,0,0,0,2,2,0,2,1,1,0,2,1,1,0,1,1] [2,2,2,2,2,2,2,2,2,2,2,2,2,2,2,2] [16] [(36,i6 k),(35,i6 t),(34,ptr s.gm)] (λM=>bR (B1+1) [.bool (s.l.gt k).sm,i6 (s.l.gt k).nx,i6 (s.l.gt k).st,i6 (s.l.gt k).pd,i6 (s.l.gt k).si,.slice (s.gb k) (List.length (s.l.gt k).la) (s.gc k),i6 (s.l.gt k).pr,i6 0]::(bR (B1) [i6 y.k,i6 y.a,i6 y.b,i6 y.c,i6 y.d,i6 y.e]::(M))) 2 28 [true] [16] [(decide (IntKind.wrap .i64 ((s.l.gt k).nx-s.l.now)>IntKind.wrap .i64 (IntKind.wrap .i64 (y.b-1)*y.a)),true),((s.l.gt k).sm,true),((s.l.gt k).sm,true),((s.l.gt k).sm,true),((s.l.gt k).sm,true),((s.l.gt k).sm,true),((s.l.gt k).sm,true),((s.l.gt k).sm,true),((s.l.gt k).sm,true),((s.l.gt k).sm,true),((s.l.gt k).sm,true),((s.l.gt k).sm,true),((s.l.gt k).sm,true),((s.l.gt k).sm,true),((s.l.gt k).sm,true)] [((↑k:Int),s.V.nl)] [(8,(k,s.V.nl))] λD x q e H m J=>?_
  refine bK F d e q 37 84 #[ptr s.gm,i6 t,i6 k] λgJ R=>?_
  refine rZ F hB (s:=s) (Sat.back (A:=mR s) (Sat.back (A:=bR B1 [i6 y.k,i6 y.a,i6 y.b,i6 y.c,i6 y.d,i6 y.e]::mR s) q.sat)) O (by omega) P ht Q λl f w' C' g' cap' vs' nb i W V z3 U T z6 z7=>?_
  refine K1 hc l f w' C' g' cap' vs' nb i (λw4 M h4 L7 hz=>W _ _ h4 L7 λw5 h5 mz=>R _ _ _ h5 λa6 B6 S6 nB oS=>?_) (λi r h=>V (i+2) r h) (by omega) U T z6 z7;have hb5:B<=w5.heap.size:=by omega
  refine aq F hB d nB S6 1 [] [] [] [] (λM=>M) 0 30 [true] [16] λa7 w7 S7 lW oA oT tu=>?_
  refine cV F S7 d o lW [] (.tuple #[]) ?_;exact hz w7 S7.sat (by omega)
 .cases I:(s.l.gt k).sm with
  |false=>
   refine bA F hB d u S 64 [1,0,7,1,14,k,0,108,0,0,0,8,0,0,0,1,0,0,0,1,2,0,2,1,0,0,1,1,0,0,0,2,1,0,1,1,0,0,1,1,2,0,7,1,0,0,0,8,15,k,0,108] [2,0,0,0,0,0,0,0,0,0,0,0,0,0,0,1,2,2,2,2,2,2,2,3,2] [16,10,6] [(71,i6 k),(70,i6 t),(69,ptr s.gm),(0,ptr s.gm),(1,i6 t),(2,i6 k)] (λM=>bR (B1+1) [.bool true,i6 (IntKind.wrap .i64 (s.l.now+y.a)),i6 (s.l.gt k).st,i6 (s.l.gt k).pd,i6 (s.l.gt k).si,.slice (s.gb k) (List.length (s.l.gt k).la) (s.gc k),i6 (s.l.gt k).pr,i6 0]::(bR (B1) [i6 y.k,i6 y.a,i6 y.b,i6 y.c,i6 y.d,i6 y.e]::(bu 13 (k,7) (i6 0) (bu 13 (k,6) (i6 (s.l.gt k).pr) (bu 13 (k,5) (.slice (s.gb k) (List.length (s.l.gt k).la) (s.gc k)) (bu 13 (k,4) (i6 (s.l.gt k).si) (bu 13 (k,3) (i6 (s.l.gt k).pd) (bu 13 (k,2) (i6 (s.l.gt k).st) (bu 13 (k,1) (i6 (IntKind.wrap .i64 (s.l.now+y.a))) (bu 13 (k,0) (.bool true) (M))))))))))) 2 64 [false,true] [16,10,6] [(!(s.l.gt k).sm,true),(!(s.l.gt k).sm,true),(!(s.l.gt k).sm,true),(!(s.l.gt k).sm,true),(!(s.l.gt k).sm,true),(!(s.l.gt k).sm,true),(!(s.l.gt k).sm,true),((s.l.gt k).sm,false),((s.l.gt k).sm,false),((s.l.gt k).sm,false),((s.l.gt k).sm,false),((s.l.gt k).sm,false),((s.l.gt k).sm,false),((s.l.gt k).sm,false),((s.l.gt k).sm,false),((s.l.gt k).sm,false),((s.l.gt k).sm,false),((s.l.gt k).sm,false),((s.l.gt k).sm,false),((s.l.gt k).sm,false),((s.l.gt k).sm,false)] [((↑k:Int),s.V.nl),((↑k:Int),s.V.nl)] [(16,(k,s.V.nl))] λD x q e H m J=>?_
   rw[show pc prog 77 64 [false,true] [16,10,6]=pc prog 77 57 [false,false] [16,10,6] by kernel_rfl];rw[K]at q;exact fin hc (s.l.now+y.a) (by rw[I];simp) d o _ _ e m q.env (Sat.gG (g:={s.l.gt k with sm:=true,nx:=s.l.now+y.a}) q.sat)
  |true=>
   have wo:¬((s.l.gt k).nx-s.l.now>(y.b-1)*y.a):=λz=>hc ⟨I,z⟩
   by_cases hx:(s.l.gt k).nx<s.l.now
   .refine bA F hB d u S 64 [1,0,7,1,14,k,0,108,0,0,0,8,0,0,0,2,2,0,2,1,1,0,2,1,1,0,1,1,0,0,0,2,2,0,2,1,2,0,2,1,0,0,1,1,0,0,0,2,1,0,1,1,0,0,1,1,2,0,7,1,0,0,0,8,15,k,0,108] [2,2,2,2,2,2,2,2,2,2,2,2,2,2,2,0,0,0,0,0,0,0,0,2,2] [16,10,6] [(71,i6 k),(70,i6 t),(69,ptr s.gm),(0,ptr s.gm),(1,i6 t),(2,i6 k)] (λM=>bR (B1+1) [.bool true,i6 (IntKind.wrap .i64 (s.l.now+y.a)),i6 (s.l.gt k).st,i6 (s.l.gt k).pd,i6 (s.l.gt k).si,.slice (s.gb k) (List.length (s.l.gt k).la) (s.gc k),i6 (s.l.gt k).pr,i6 0]::(bR (B1) [i6 y.k,i6 y.a,i6 y.b,i6 y.c,i6 y.d,i6 y.e]::(bu 13 (k,7) (i6 0) (bu 13 (k,6) (i6 (s.l.gt k).pr) (bu 13 (k,5) (.slice (s.gb k) (List.length (s.l.gt k).la) (s.gc k)) (bu 13 (k,4) (i6 (s.l.gt k).si) (bu 13 (k,3) (i6 (s.l.gt k).pd) (bu 13 (k,2) (i6 (s.l.gt k).st) (bu 13 (k,1) (i6 (IntKind.wrap .i64 (s.l.now+y.a))) (bu 13 (k,0) (.bool true) (M))))))))))) 2 64 [false,true] [16,10,6] [(decide ((s.l.gt k).nx<s.l.now),true),(!(s.l.gt k).sm,false),(!(s.l.gt k).sm,false),(!(s.l.gt k).sm,false),(!(s.l.gt k).sm,false),(!(s.l.gt k).sm,false),(!(s.l.gt k).sm,false),(!(s.l.gt k).sm,false),(decide (IntKind.wrap .i64 ((s.l.gt k).nx-s.l.now)>IntKind.wrap .i64 (IntKind.wrap .i64 (y.b-1)*y.a)),false),((s.l.gt k).sm,true),((s.l.gt k).sm,true),((s.l.gt k).sm,true),((s.l.gt k).sm,true),((s.l.gt k).sm,true),((s.l.gt k).sm,true),((s.l.gt k).sm,true),((s.l.gt k).sm,true),((s.l.gt k).sm,true),((s.l.gt k).sm,true),((s.l.gt k).sm,true),((s.l.gt k).sm,true),((s.l.gt k).sm,true),((s.l.gt k).sm,true)] [((↑k:Int),s.V.nl),((↑k:Int),s.V.nl)] [(16,(k,s.V.nl))] λD x q e H m J=>?_
    rw[show pc prog 77 64 [false,true] [16,10,6]=pc prog 77 57 [false,false] [16,10,6] by kernel_rfl];rw[K]at q;exact fin hc (s.l.now+y.a) (by rw[ah (.inr hx)]) d o _ _ e m q.env (Sat.gG (g:={s.l.gt k with sm:=true,nx:=s.l.now+y.a}) q.sat)
   .refine bA F hB d u S 57 [1,0,7,1,14,k,0,108,0,0,0,8,0,0,0,2,2,0,2,1,1,0,2,1,1,0,1,1,0,0,0,2,2,0,2,1,0,0,0,2,1,0,1,1,0,0,1,1,2,0,7,1,0,0,0,8,15,k,0,108] [2,2,2,2,2,2,2,2,2,2,2,2,2,2,2,0,0,0,0,0,0,0,0,0,2] [16,10,6] [(71,i6 k),(70,i6 t),(69,ptr s.gm),(0,ptr s.gm),(1,i6 t),(2,i6 k)] (λM=>bR (B1+1) [.bool true,i6 (IntKind.wrap .i64 ((s.l.gt k).nx+y.a)),i6 (s.l.gt k).st,i6 (s.l.gt k).pd,i6 (s.l.gt k).si,.slice (s.gb k) (List.length (s.l.gt k).la) (s.gc k),i6 (s.l.gt k).pr,i6 0]::(bR (B1) [i6 y.k,i6 y.a,i6 y.b,i6 y.c,i6 y.d,i6 y.e]::(bu 13 (k,7) (i6 0) (bu 13 (k,6) (i6 (s.l.gt k).pr) (bu 13 (k,5) (.slice (s.gb k) (List.length (s.l.gt k).la) (s.gc k)) (bu 13 (k,4) (i6 (s.l.gt k).si) (bu 13 (k,3) (i6 (s.l.gt k).pd) (bu 13 (k,2) (i6 (s.l.gt k).st) (bu 13 (k,1) (i6 (IntKind.wrap .i64 ((s.l.gt k).nx+y.a))) (bu 13 (k,0) (.bool true) (M))))))))))) 2 57 [false,false] [16,10,6] [(decide ((s.l.gt k).nx<s.l.now),false),(!(s.l.gt k).sm,false),(!(s.l.gt k).sm,false),(!(s.l.gt k).sm,false),(!(s.l.gt k).sm,false),(!(s.l.gt k).sm,false),(!(s.l.gt k).sm,false),(!(s.l.gt k).sm,false),(decide (IntKind.wrap .i64 ((s.l.gt k).nx-s.l.now)>IntKind.wrap .i64 (IntKind.wrap .i64 (y.b-1)*y.a)),false),((s.l.gt k).sm,true),((s.l.gt k).sm,true),((s.l.gt k).sm,true),((s.l.gt k).sm,true),((s.l.gt k).sm,true),((s.l.gt k).sm,true),((s.l.gt k).sm,true),((s.l.gt k).sm,true),((s.l.gt k).sm,true),((s.l.gt k).sm,true),((s.l.gt k).sm,true),((s.l.gt k).sm,true),((s.l.gt k).sm,true),((s.l.gt k).sm,true)] [((↑k:Int),s.V.nl),((↑k:Int),s.V.nl)] [(16,(k,s.V.nl))] λD x q e H m J=>?_
    rw[Y]at q;exact fin hc ((s.l.gt k).nx+y.a) (by rw[af (by rw[I];simp;omega)]) d o _ _ e m q.env (Sat.gG (g:={s.l.gt k with sm:=true,nx:=(s.l.gt k).nx+y.a}) q.sat)
def UX(p k:Nat):List (Nat×Value)->List aJ->List aJ
 |[],M=>M
 |(f,x)::ws,M=>bu p (k,f) x (UX p k ws M)
def Fa(k:Nat)(v:Nat->Nat->Value):List (Nat×Value)->Nat->Nat->Value
 |[]=>v
 |(f,x)::ws=>eH (Fa k v ws) k f x
theorem uG:∀{M:aX}{p:Nat}{r:aJ},nth M p=some r->cD M p r=M
 |[],_,_,h=>by cases h
 |_::_,0,_,h=>by cases h;simp[cD]
 |_::M,p+1,r,h=>by simp only[cD];rw[uG (M:=M) h]
theorem EW{M:aX}{p k n c:Nat}{a:Addr}{v:fH}(h:nth M p=some (fR a c v n true)):∀ws,UX p k ws M=cD M p {(fR a c v n true)with vl:=Fa k (λj f=>(v j).getD f undef) ws}
 |[]=>(uG h).symm
 |(f,x)::ws=>by unfold UX;rw[EW h ws,jm h];rfl
theorem Sat.gw(d:nth M p=some (fR a c v n true))(ws:List (Nat×Value))(u:fH)(i:∀j f,f<c->(u j).getD f undef=Fa k (λj f=>(v j).getD f undef) ws j f)(h:Sat Ok w (UX p k ws M)):Sat Ok w (cD M p (fR a c u n true)):=by
 rw[EW d]at h;have e:=h.re p (r:={(fR a c v n true)with vl:=Fa k (λj f=>(v j).getD f undef) ws}) (kF _ d) rfl u (λj _ f l=>i j f l);rw[jL]at e;exact e
abbrev RS.xH(s:RS)(k:Nat)(st:Int):RS:={s with gb:=upd s.gb k none,gc:=upd s.gc k 0,l:=s.l.aS k ((s.l.gt k).turn s.l.now st)}
theorem QZ{now:Int}(j f:Nat)(h:f<8):(nN (upd gt k ((gt k).turn now st) j) (upd gb k none j) (upd gc k 0 j)).getD f undef=Fa k (λj f=>(nN (gt j) (gb j) (gc j)).getD f undef) [(6,i6 0),(5,.slice none 0 0),(4,i6 now),(3,i6 ((gt k).pd+1)),(2,i6 st)] j f:=by
 simp only[Fa];unfold eH upd
 by_cases e:j=k
 .subst e
  rcases f with _|_|_|_|_|_|_|_|f
  all_goals first|omega|simp[nN,Gt.turn]
 .have d:(j==k)=false:=by simpa using e
  simp[e,d]
theorem zK(F:aC prog main (DX Ok) Ψ)(hB:HB B Ok){s:RS}(D:Sat Ok w (mR s++C))(H:B<=w.heap.size)(hk:k<s.V.nl)(z:0<=(s.l.gt k).pd/\(s.l.gt k).pd<1000000)(K:∀w',Sat Ok w' (mR (s.xH k st)++C)->w.heap.size<=w'.heap.size->Ψ (G (cf.finish (.tuple #[])) cs) w'):
 Ψ (G (Frame.enter prog 99 #[ptr s.gm,i6 k,i6 st] .normal) (cf::cs)) w:=by
 have h:IntKind.wrap .i64 ((s.l.gt k).pd+1)=(s.l.gt k).pd+1:=aA (by omega) (by omega);refine dg f99 func99 _ rfl 50 (by kernel_rfl) D λbb Q B1 O d m l J x=>?_
 refine bA F hB d l J 54 [0,0,7,1,13,k,2,101,0,0,7,1,13,k,3,101,13,k,3,101,0,0,7,1,0,0,2,1,13,k,4,101,0,0,7,1,13,k,5,101,0,0,7,1,13,k,6,101] [2,2,2,2,2,2] [9] [] (λM=>bu 13 (k,6) (i6 0) (bu 13 (k,5) (.slice none 0 0) (bu 13 (k,4) (i6 s.l.now) (bu 13 (k,3) (i6 (IntKind.wrap .i64 ((s.l.gt k).pd+1))) (bu 13 (k,2) (i6 st) (M)))))) 0 54 [] [9] [] [((↑k:Int),s.V.nl),((↑k:Int),s.V.nl),((↑k:Int),s.V.nl),((↑k:Int),s.V.nl),((↑k:Int),s.V.nl),((↑k:Int),s.V.nl)] [(6,(k,s.V.nl))] λP q o i u e I=>?_
 refine cV F o d m i [] (.tuple #[]) ?_;rw[h]at o;exact K q (Sat.gw (M:=mR s++C) (p:=13) (k:=k) (a:=s.ga) (c:=8) (n:=s.V.nl) (v:=λj=>nN (s.l.gt j) (s.gb j) (s.gc j)) rfl [(6,i6 0),(5,.slice none 0 0),(4,i6 s.l.now),(3,i6 ((s.l.gt k).pd+1)),(2,i6 st)] (λj=>nN (upd s.l.gt k ((s.l.gt k).turn s.l.now st) j) (upd s.gb k none j) (upd s.gc k 0 j)) (λj f A=>QZ j f A) o.sat) e
abbrev RS.Ie(s:RS)(t k:Nat):RS:={s with l:=s.l.mark t k}
theorem z9(F:aC prog main (DX Ok) Ψ)(hB:HB B Ok)(d:bb.kind=.normal)(U:bb.fn=78){s:RS}{W:Act}(z:RV Ok s)(hle:B<=B1)(iI:w.heap.size=B1)(T:W.defers=[])(m:s.ta=some tg)(I:t<s.l.tl)(J:s.l.el<1000000000)(hk:k<s.V.nl)(e:k=0\/k=1\/k=2\/k=3\/k=4\/k=5)(S0:St Ok B1 105 [(0,ptr s.gm),(1,i6 t),(2,i6 k)] (mR s++C) 0 W w)(K:∀x u w' C' g' cap' vs',fT Ok B Ψ cf cs x u->(∀i r,nth C i=some r->∃j,nth C' j=some r)->w.heap.size<=w'.heap.size->Sat Ok w' (mR ((s.Ie t k).dR g' cap' vs' ((s.l.mark t k).say t k 8 0))++C')->RV Ok ((s.Ie t k).dR g' cap' vs' ((s.l.mark t k).say t k 8 0))->Ψ (G (Frame.enter prog 58 #[ptr s.gm,i6 t,i6 (k+1:Nat)] .normal) (x::u)) w'):
 Ψ (G (bb.at W (pc prog 78 34 [false,false] [])) (cf::cs)) w:=by
 have D:IntKind.wrap .i64 ((k:Int)+1)=((k+1:Nat):Int):=by rw[aA (by omega) (by omega)];rfl
 obtain⟨s,rfl⟩:=RS.jI m;replace I:t<s.l.tl:=I;replace hk:k<s.V.nl:=hk;refine KA F aB hB (by omega) d T 10 [(0,(0,4),true),(0,(0,7),true),(13,(k,3),false),(3,(t,13+k),false)] [(true,false),(true,false),(true,true)] [16] [(98,i6 k),(97,i6 t),(96,ptr s.gm),(0,ptr s.gm),(1,i6 t),(2,i6 k)] (λM=>bu 3 (t,13+k) (i6 (s.l.gt k).pd) M) 0 44 [false,false] [16] [] [((t:Int),s.l.tl),((k:Int),s.V.nl)] [(t,s.l.tl),(k,s.V.nl)] (by rcases e with rfl|rfl|rfl|rfl|rfl|rfl<;>kernel_rfl) (by rcases e with rfl|rfl|rfl|rfl|rfl|rfl<;>kernel_rfl) cg (nO (by dsimp only;omega) (nO (by dsimp only;omega) cg)) (nO (by dsimp only;omega) (nO (by dsimp only;omega) cg)) S0 λa1 w1 l S iH jA dS=>?_
 replace l:St Ok B1 105 _ (mR (RS.Ie {s with ta:=some tg} t k)++C) 0 a1 w1:=⟨l.env,l.sat.re 3 rfl rfl _ λj _ f _=>fN (by rcases e with rfl|rfl|rfl|rfl|rfl|rfl<;>rfl) (show 13+k<19 by omega) j f,l.sz⟩;refine bK F d S l 99 82 #[ptr s.gm,i6 t,i6 k,i6 8,i6 0] λgJ q=>?_
 refine kS F hB (s:=RS.Ie {s with ta:=some tg} t k) l.sat ⟨z.a,z.t,z.w,z.e⟩ (by omega) J m I λg' cap' vs' w2 h2 H je=>q _ _ _ h2 λa2 B2 S2 R fV=>?_
 refine aq F hB d R S2 6 [] [] [] [(103,i6 (IntKind.wrap .i64 ((↑k:Int)+1))),(101,i6 t),(100,ptr s.gm)] (λM=>M) 0 51 [false,false] [16] λa3 w3 X Q gQ ji dX=>?_
 rw[D]at X;refine bK F d Q X 104 58 #[ptr s.gm,i6 t,i6 (↑(k+1):Int)] λV o=>?_
 refine K V _ w3 _ g' cap' vs' (λw4 M h4 L7 hz=>o _ _ _ h4 λa4 B4 S4 P jP=>?_) (λi r h=>⟨i,h⟩) (by omega) X.sat H;refine aq F hB d P S4 1 [] [] [] [] (λM=>M) 0 53 [false,false] [16] λa5 Z Y O mz A jv=>?_
 refine cV F Y d U O [] (.tuple #[]) ?_;exact hz Z Y.sat A
theorem Rt:pc prog 78 54 [false,true,false] [10]=pc prog 78 34 [false,false] []:=by kernel_rfl
theorem K8{gb:ru}{gc:cm}{x:Int}(j f:Nat)(h:f<8):(nN (upd gt k {gt k with pr:=x} j) (gb j) (gc j)).getD f undef=Fa k (λj f=>(nN (gt j) (gb j) (gc j)).getD f undef) [(6,i6 x)] j f:=by
 simp only[Fa];unfold eH upd
 by_cases e:j=k
 .subst e
  rcases f with _|_|_|_|_|_|_|_|f
  all_goals first|omega|simp[nN]
 .have d:(j==k)=false:=by simpa using e
  simp[e,d]
theorem NL(F:aC prog main (DX Ok) Ψ)(hB:HB B Ok){s:RS}(Z:Sat Ok w (mR s++C))(o:RV Ok s)(gp:B<=w.heap.size)(x:s.ta=some tg)(W:t<s.l.tl)(D:s.l.el<1000000000)(hk:k<s.V.nl)(z:k=0\/k=1\/k=2\/k=3\/k=4\/k=5)(h0:(s.l.gt k).st=2)(X:-1000000<(s.l.gt k).pr/\(s.l.gt k).pr<1000000)(hc:¬(s.l.gt k).pr=y.e)(K:∀l e w' C' g' cap' vs',fT Ok B Ψ cf cs l e->(∀i r,nth C i=some r->∃j,nth C' j=some r)->w.heap.size<=w'.heap.size->Sat Ok w' (mR (((s.AF k {s.l.gt k with pr:=(s.l.gt k).pr+1}).Ie t k).dR g' cap' vs' (((s.l.aS k {s.l.gt k with pr:=(s.l.gt k).pr+1}).mark t k).say t k 8 0))++C')->RV Ok (((s.AF k {s.l.gt k with pr:=(s.l.gt k).pr+1}).Ie t k).dR g' cap' vs' (((s.l.aS k {s.l.gt k with pr:=(s.l.gt k).pr+1}).mark t k).say t k 8 0))->Ψ (G (Frame.enter prog 58 #[ptr s.gm,i6 t,i6 (k+1:Nat)] .normal) (l::e)) w'):
 Ψ (G (Frame.enter prog 78 #[ptr s.gm,i6 t,i6 k,.agg (qR y).toArray] .normal) (cf::cs)) w:=by
 have u:IntKind.wrap .i64 ((s.l.gt k).pr+1)=(s.l.gt k).pr+1:=aA (by omega) (by omega);refine dg f78 func78 _ rfl 105 (by kernel_rfl) Z λbb a0 B1 hn m J I S0 U=>?_
 refine bA F hB m I S0 54 [1,0,7,1,14,k,2,101,1,0,7,1,14,k,2,101,1,0,7,1,14,k,6,101,0,0,5,1,1,0,7,1,14,k,6,101,14,k,6,101] [2,0,2,2,2,0,2,2] [10] [(0,ptr s.gm),(1,i6 t),(2,i6 k)] (λM=>bR (B1) [i6 y.k,i6 y.a,i6 y.b,i6 y.c,i6 y.d,i6 y.e]::(bu 13 (k,6) (i6 (IntKind.wrap .i64 ((s.l.gt k).pr+1))) (M))) 1 54 [false,true,false] [10] [((s.l.gt k).pr==y.e,false),((s.l.gt k).st==2,true),((s.l.gt k).st==1,false)] [((↑k:Int),s.V.nl),((↑k:Int),s.V.nl),((↑k:Int),s.V.nl),((↑k:Int),s.V.nl),((↑k:Int),s.V.nl)] [(5,(k,s.V.nl))] λa1 S q H T V dS=>?_
 rw[Rt];rw[u]at q
 have h1:Sat Ok S (mR (s.AF k {s.l.gt k with pr:=(s.l.gt k).pr+1})++(bR B1 [i6 y.k,i6 y.a,i6 y.b,i6 y.c,i6 y.d,i6 y.e]::C)):=
  Sat.gw (M:=mR s++(bR B1 [i6 y.k,i6 y.a,i6 y.b,i6 y.c,i6 y.d,i6 y.e]::C)) (p:=13) (k:=k) (a:=s.ga) (c:=8) (n:=s.V.nl) (v:=λj=>nN (s.l.gt j) (s.gb j) (s.gc j)) rfl [(6,i6 ((s.l.gt k).pr+1))] (λj=>nN (upd s.l.gt k {s.l.gt k with pr:=(s.l.gt k).pr+1} j) (s.gb j) (s.gc j)) (λj f Y=>K8 j f Y) (Sat.back (A:=bu 13 (k,6) (i6 ((s.l.gt k).pr+1)) (mR s)) q.sat)
 refine z9 F hB m J (s:=s.AF k {s.l.gt k with pr:=(s.l.gt k).pr+1}) (tg:=tg) ⟨o.a,o.t,o.w,o.e⟩ (by omega) rfl H x W D hk z ⟨⟨q.env.sz,λd v hl=>q.env.val d v hl⟩,h1,rfl⟩ λl e w' C' g' cap' vs' R Q z3 P O=>?_
 exact K l e w' C' g' cap' vs' R (λi r h=>Q (i+1) r h) (by omega) P O
theorem NN(F:aC prog main (DX Ok) Ψ)(hB:HB B Ok){s:RS}(U:Sat Ok w (mR s++C))(S:RV Ok s)(V:B<=w.heap.size)(m:s.ta=some tg)(T:t<s.l.tl)(q:s.l.el<1000000000)(hk:k<s.V.nl)(o:k=0\/k=1\/k=2\/k=3\/k=4\/k=5)(h0:(s.l.gt k).st=0)(K:∀f e w' C' g' cap' vs',fT Ok B Ψ cf cs f e->(∀i r,nth C i=some r->∃j,nth C' j=some r)->w.heap.size<=w'.heap.size->Sat Ok w' (mR ((s.Ie t k).dR g' cap' vs' ((s.l.mark t k).say t k 8 0))++C')->RV Ok ((s.Ie t k).dR g' cap' vs' ((s.l.mark t k).say t k 8 0))->Ψ (G (Frame.enter prog 58 #[ptr s.gm,i6 t,i6 (k+1:Nat)] .normal) (f::e)) w'):
 Ψ (G (Frame.enter prog 78 #[ptr s.gm,i6 t,i6 k,.agg (qR y).toArray] .normal) (cf::cs)) w:=by
 refine dg f78 func78 _ rfl 105 (by kernel_rfl) U λbb a0 B1 hn l z x X Q=>?_
 refine bA F hB l x X 34 [1,0,7,1,14,k,2,101,1,0,7,1,14,k,2,101] [2,0,2,0] [] [(0,ptr s.gm),(1,i6 t),(2,i6 k)] (λM=>bR (B1) [i6 y.k,i6 y.a,i6 y.b,i6 y.c,i6 y.d,i6 y.e]::(M)) 1 34 [false,false] [] [((s.l.gt k).st==2,false),((s.l.gt k).st==1,false)] [((↑k:Int),s.V.nl),((↑k:Int),s.V.nl)] [(2,(k,s.V.nl))] λa1 Z D u P R W=>?_
 refine z9 F hB l z (s:=s) (tg:=tg) S (by omega) rfl u m T q hk o ⟨⟨D.env.sz,λd v hl=>D.env.val d v hl⟩,Sat.back (A:=mR s) D.sat,rfl⟩ λf e w' C' g' cap' vs' O J Y I H=>?_
 exact K f e w' C' g' cap' vs' O (λi r h=>J (i+1) r h) (by omega) I H
theorem FU(F:aC prog main (DX Ok) Ψ)(hB:HB B Ok){s:RS}(hS:Sat Ok w (mR s++C))(hv:RV Ok s)(gp:B<=w.heap.size)(x:s.ta=some tg)(ht:t<s.l.tl)(z:s.l.el<1000000000)(hk:k<s.V.nl)(LL:0<=s.l.now/\s.l.now<1000000000000)(ZR:0<=(s.l.gt k).si/\(s.l.gt k).si<=1000000000000)(hc:((s.l.gt k).st=1/\s.l.now-(s.l.gt k).si<y.d)\/((s.l.gt k).st=2/\(s.l.gt k).pr=y.e))(K:∀f e w' C' g' cap' vs' nb i,fT Ok B Ψ cf cs f e->(∀i r,nth C i=some r->∃j,nth C' j=some r)->w.heap.size<=w'.heap.size->Sat Ok w' (mR (s.dR g' cap' vs' (s.l.say t k 7 0))++C')->RV Ok (s.dR g' cap' vs' (s.l.say t k 7 0))->B<=nb->nth C' i=some (gZ ⟨nb,0,none⟩ [⟨3,k,0⟩])->Ψ (G (Frame.enter prog 83 #[ptr s.gm,i6 t,i6 k,lu (eB 3 k 0) (.slice (some ⟨nb,0,none⟩) 1 1)] .normal) (f::e)) w'):
 Ψ (G (Frame.enter prog 78 #[ptr s.gm,i6 t,i6 k,.agg (qR y).toArray] .normal) (cf::cs)) w:=by
 have tZ:IntKind.wrap .i64 (s.l.now-(s.l.gt k).si)=s.l.now-(s.l.gt k).si:=aA (by omega) (by omega);refine dg f78 func78 _ rfl 105 (by kernel_rfl) hS λbb a0 B1 hn d H D S0 iI=>?_
 rcases hc with ⟨h0,hc⟩|⟨h0,hc⟩
 .refine bA F hB d D S0 29 [1,0,7,1,14,k,2,101,1,0,2,1,1,0,7,1,14,k,4,101,0,0,4,1] [2,2,2,2] [15] [(35,i6 k),(34,i6 t),(33,ptr s.gm)] (λM=>bR (B1) [i6 y.k,i6 y.a,i6 y.b,i6 y.c,i6 y.d,i6 y.e]::(M)) 1 29 [true,true] [15] [(decide (IntKind.wrap .i64 (s.l.now-(s.l.gt k).si)<y.d),true),((s.l.gt k).st==1,true)] [((↑k:Int),s.V.nl),((↑k:Int),s.V.nl)] [(2,(k,s.V.nl))] λa1 w1 J q Z jA dS=>?_
  refine bK F d q J 36 84 #[ptr s.gm,i6 t,i6 k] λgJ l=>?_
  refine rZ F hB (s:=s) (Sat.back (A:=mR s) J.sat) hv (by omega) x ht z λf e w' C' g' cap' vs' nb i T S z3 R Q P O=>?_
  refine K f e w' C' g' cap' vs' nb i (λw4 M h4 u hz=>T _ _ h4 u λV h5 Y=>l _ _ _ h5 λa6 B6 S6 o X=>?_) (λi r h=>S (i+1) r h) (by omega) R Q P O;have hb5:B<=V.heap.size:=by omega
  refine aq F hB d o S6 1 [] [] [] [] (λM=>M) 0 31 [true,true] [15] λa7 U I m W oT tu=>?_
  refine cV F I d H m [] (.tuple #[]) ?_;exact hz U I.sat (by omega)
 .refine bA F hB d D S0 44 [1,0,7,1,14,k,2,101,1,0,7,1,14,k,2,101,1,0,7,1,14,k,6,101,0,0,5,1] [2,0,2,2,2,2] [10] [(66,i6 k),(65,i6 t),(64,ptr s.gm)] (λM=>bR (B1) [i6 y.k,i6 y.a,i6 y.b,i6 y.c,i6 y.d,i6 y.e]::(M)) 1 44 [false,true,true] [10] [((s.l.gt k).pr==y.e,true),((s.l.gt k).st==2,true),((s.l.gt k).st==1,false)] [((↑k:Int),s.V.nl),((↑k:Int),s.V.nl),((↑k:Int),s.V.nl)] [(3,(k,s.V.nl))] λa1 w1 J q Z jA dS=>?_
  refine bK F d q J 67 84 #[ptr s.gm,i6 t,i6 k] λgJ l=>?_
  refine rZ F hB (s:=s) (Sat.back (A:=mR s) J.sat) hv (by omega) x ht z λf e w' C' g' cap' vs' nb i T S z3 R Q P O=>?_
  refine K f e w' C' g' cap' vs' nb i (λw4 M h4 u hz=>T _ _ h4 u λV h5 Y=>l _ _ _ h5 λa6 B6 S6 o X=>?_) (λi r h=>S (i+1) r h) (by omega) R Q P O;have hb5:B<=V.heap.size:=by omega
  refine aq F hB d o S6 1 [] [] [] [] (λM=>M) 0 46 [false,true,true] [10] λa7 U I m W oT tu=>?_
  refine cV F I d H m [] (.tuple #[]) ?_;exact hz U I.sat (by omega)
theorem NK(F:aC prog main (DX Ok) Ψ)(hB:HB B Ok){s:RS}(hS:Sat Ok w (mR s++C))(I:RV Ok s)(gp:B<=w.heap.size)(x:s.ta=some tg)(ht:t<s.l.tl)(Ar:s.l.el<100000000)(hk:k<s.V.nl)(R:k=0\/k=1\/k=2\/k=3\/k=4\/k=5)(LL:0<=s.l.now/\s.l.now<1000000000000)(ZR:0<=(s.l.gt k).si/\(s.l.gt k).si<=1000000000000)(h0:(s.l.gt k).st=1)(hc:¬s.l.now-(s.l.gt k).si<y.d)(Q:0<=(s.l.gt k).pd/\(s.l.gt k).pd<1000000)(hye:1<=y.e/\y.e<=9)(K:∀g0 H O e,e=(s.xH k 2).dR g0 H O ((s.l.aS k ((s.l.gt k).turn s.l.now 2)).say t k 10 0)->∀u q w' C' g' cap' vs',fT Ok B Ψ cf cs u q->(∀i r,nth C i=some r->∃j,nth C' j=some r)->w.heap.size<=w'.heap.size->Sat Ok w' (mR (((RS.AF e k {e.l.gt k with pr:=(e.l.gt k).pr+1}).Ie t k).dR g' cap' vs' (((e.l.aS k {e.l.gt k with pr:=(e.l.gt k).pr+1}).mark t k).say t k 8 0))++C')->RV Ok (((RS.AF e k {e.l.gt k with pr:=(e.l.gt k).pr+1}).Ie t k).dR g' cap' vs' (((e.l.aS k {e.l.gt k with pr:=(e.l.gt k).pr+1}).mark t k).say t k 8 0))->Ψ (G (Frame.enter prog 58 #[ptr e.gm,i6 t,i6 (k+1:Nat)] .normal) (u::q)) w'):
 Ψ (G (Frame.enter prog 78 #[ptr s.gm,i6 t,i6 k,.agg (qR y).toArray] .normal) (cf::cs)) w:=by
 have tZ:IntKind.wrap .i64 (s.l.now-(s.l.gt k).si)=s.l.now-(s.l.gt k).si:=aA (by omega) (by omega);refine dg f78 func78 _ rfl 105 (by kernel_rfl) hS λbb a0 B1 hn m Z Y S0 iI=>?_
 refine bA F hB m Y S0 29 [1,0,7,1,14,k,2,101,1,0,2,1,1,0,7,1,14,k,4,101,0,0,4,1] [2,2,2,0] [15] [(38,i6 k),(37,ptr s.gm),(7,ptr B1),(0,ptr s.gm),(1,i6 t),(2,i6 k)] (λM=>bR (B1) [i6 y.k,i6 y.a,i6 y.b,i6 y.c,i6 y.d,i6 y.e]::(M)) 1 29 [true,false] [15] [(decide (IntKind.wrap .i64 (s.l.now-(s.l.gt k).si)<y.d),false),((s.l.gt k).st==1,true)] [((↑k:Int),s.V.nl),((↑k:Int),s.V.nl)] [(2,(k,s.V.nl))] λa1 w1 S1 X iH jA dS=>?_
 refine bK F m X S1 39 99 #[ptr s.gm,i6 k,i6 2] λgJ D=>?_
 refine zK F hB (s:=s) (Sat.back (A:=mR s) S1.sat) (by omega) hk Q λw2 h2 je=>D _ _ _ h2 λa2 B2 S2 W fV=>?_
 refine aq F hB m W S2 5 [] [] [] [(42,i6 k),(41,i6 t),(40,ptr s.gm),(7,ptr B1),(0,ptr s.gm),(1,i6 t),(2,i6 k)] (λM=>M) 0 35 [true,false] [15] λa3 w3 S3 V gQ ji dX=>?_
 refine bK F m V S3 43 82 #[ptr s.gm,i6 t,i6 k,i6 10,i6 0] λlq z=>?_
 refine kS F hB (s:=s.xH k 2) S3.sat ⟨I.a,I.t,I.w,I.e⟩ (by omega) (by simp only[LS.aS];omega) x ht λg' cap' vs' w4 h4 o oB=>z _ _ _ h4 λa4 B4 S4 U jP=>?_
 obtain⟨e,l⟩:∃e,e=(s.xH k 2).dR g' cap' vs' ((s.l.aS k ((s.l.gt k).turn s.l.now 2)).say t k 10 0):=⟨_,rfl⟩;have g1:(e.l.gt k).st=2:=by rw[l];simp[LS.say,LS.aS,upd,Gt.turn]
 have g2:(e.l.gt k).pr=0:=by rw[l];simp[LS.say,LS.aS,upd,Gt.turn]
 have g3:e.gm=s.gm:=by rw[l]
 have g4:e.V=s.V:=by rw[l]
 have gn:¬(e.l.gt k).pr=y.e:=by omega
 have S:k<e.V.nl:=by rw[g4];exact hk
 have g5:e.ta=some tg:=by rw[l];exact x
 have g6:t<e.l.tl:=by rw[l];exact ht
 have g7:e.l.el<1000000000:=by rw[l];simp only[LS.say,LS.aS];omega
 have P:IntKind.wrap .i64 ((e.l.gt k).pr+1)=(e.l.gt k).pr+1:=aA (by omega) (by omega);rw[<-l]at S4 o;rw[<-g3]at S4;replace K:=K g' cap' vs' e l;generalize s.gm=gm at*;clear l;refine bA F hB m U S4 36 [0,0,7,1,13,k,2,101,0,0,7,1,13,k,6,101,14,0,5,1,0,0,7,1,13,k,6,101,13,k,6,101] [2,2,2,0,2,2] [10] [(0,ptr e.gm),(1,i6 t),(2,i6 k)] (λM=>bu 13 (k,6) (i6 (IntKind.wrap .i64 ((e.l.gt k).pr+1))) (M)) 0 72 [true,false,true,false] [15,10] [((e.l.gt k).pr==y.e,false),((e.l.gt k).st==2,true)] [((↑k:Int),e.V.nl),((↑k:Int),e.V.nl),((↑k:Int),e.V.nl),((↑k:Int),e.V.nl)] [(4,(k,e.V.nl))] λa5 w5 J T mz kT jv=>?_
 rw[show pc prog 78 72 [true,false,true,false] [15,10]=pc prog 78 34 [false,false] [] by kernel_rfl];rw[P]at J
 have h5:Sat Ok w5 (mR (RS.AF e k {e.l.gt k with pr:=(e.l.gt k).pr+1})++(bR B1 [i6 y.k,i6 y.a,i6 y.b,i6 y.c,i6 y.d,i6 y.e]::C)):=
  Sat.gw (M:=mR e++(bR B1 [i6 y.k,i6 y.a,i6 y.b,i6 y.c,i6 y.d,i6 y.e]::C)) (p:=13) (k:=k) (a:=e.ga) (c:=8) (n:=e.V.nl) (v:=λj=>nN (e.l.gt j) (e.gb j) (e.gc j)) rfl [(6,i6 ((e.l.gt k).pr+1))] (λj=>nN (upd e.l.gt k {e.l.gt k with pr:=(e.l.gt k).pr+1} j) (e.gb j) (e.gc j)) (λj f hf=>K8 j f hf) J.sat
 refine z9 F hB m Z (s:=RS.AF e k {e.l.gt k with pr:=(e.l.gt k).pr+1}) (tg:=tg) ⟨o.a,o.t,o.w,o.e⟩ (by omega) rfl T g5 g6 g7 S R ⟨⟨J.env.sz,λd v hl=>J.env.val d v hl⟩,h5,rfl⟩ λu q w' C' g' cap' vs' z1 z2 z3 z4 z5=>?_
 exact K u q w' C' g' cap' vs' z1 (λi r h=>z2 (i+1) r h) (by omega) z4 z5
theorem JC(h:b.ch.length=n+1):bh b=(lk b.ch n).k:=by
 unfold bh lk
 have:b.ch.getLast? =some (b.ch.getD n ⟨0,0,0⟩):=by
  rw[List.getLast?_eq_getElem?,h,fY,o8,oY (by omega)];rfl
 rw[this]
theorem N2(F:aC prog main (DX Ok) Ψ)(hB:HB B Ok)(s:Sat Ok w M)(A:eY M (.slice ho hl hc) b.ch)(J:b.ch.length<1000000000)(P:B<=w.heap.size)(K:∀w',Sat Ok w' M->w.heap.size<=w'.heap.size->Ψ (G (cf.finish (i6 (bh b))) cs) w'):Ψ (G (Frame.enter prog 125 #[lu b (.slice ho hl hc)] .normal) (cf::cs)) w:=by
 rcases A with ⟨H,D⟩|⟨ca,cap,i,H,D⟩
 .cases H
  refine dg f125 func125 _ rfl 16 (by kernel_rfl) s λbb O B1 I h j f x o=>?_
  refine bP F hB h j f x 18 [0,0,2,1] [3] [] 2 (i6 0) (λM=>bR (B1) [i6 b.k,i6 b.n,.slice none 0 0]::(M)) 1 18 [true] [] λl u m d=>?_
  have e:bh b=0:=by unfold bh;rw[D];rfl
  rw[e]at K;exact K l u.sat.tail d
 .cases H
  cases q:b.ch.length with
  |zero=>
   refine dg f125 func125 _ rfl 16 (by kernel_rfl) s λbb O B1 I h j f x o=>?_
   refine bP F hB h j f x 18 [0,0,2,1] [3] [] 2 (i6 0) (λM=>bR (B1) [i6 b.k,i6 b.n,.slice (some ca) 0 hc]::(M)) 1 18 [true] [] λl u m d=>?_
   have e:bh b=0:=by unfold bh;rw[MN.1 q];rfl
   rw[e]at K;exact K l u.sat.tail d
  |succ n=>
   replace s:Sat Ok w (gZ ca b.ch::M):=s.dup D rfl;have z:IntKind.wrap .i64 (((n+1:Nat):Int)-1)=(n:Int):=by rw[aA (by omega) (by omega)];omega
   refine dg f125 func125 _ rfl 16 (by kernel_rfl) s λbb O B1 I h j f x o=>?_
   refine qC F hB h j f x 28 [0,0,2,1,0,0,2,1,0,0,2,1,1,Int.toNat (IntKind.wrap .i64 ((↑(n+1):Int)-1)),0,101] [1,2] [] 2 (i6 (List.getD b.ch (Int.toNat (IntKind.wrap .i64 ((↑(n+1):Int)-1))) (iF.mk 0 0 0)).k) (λM=>bR (B1) [i6 b.k,i6 b.n,.slice (some ca) (n+1) hc]::(M)) 1 28 [false] [] [] [(IntKind.wrap .i64 ((↑(n+1):Int)-1),n+1)] [(1,(Int.toNat (IntKind.wrap .i64 ((↑(n+1):Int)-1)),List.length b.ch))] λl u m d=>?_
   rw[z];have e:=JC q;rw[e]at K;exact K l u.sat.tail.tail d
theorem Sat.Ur(h:Sat Ok w M)(hB:HB w.heap.size Ok)(xs:fW)(e:TypeId):Sat Ok (w.alloc (.cells xs e)) (fR ⟨w.heap.size,0,none⟩ 1 (λj=>[(xs[j]?).getD undef]) xs.size true::M):=by
 have m:=sat_iff.1 (h.new xs e hB).tail;refine sat_iff.2 ⟨λr d=>?_,dI.2 ⟨λr d o j j' hj l e=>?_,m.2⟩⟩
 .rcases ak.1 d with rfl|d
  .refine rX (λj hj i q=>?_) (λa wr s=>hB a wr (by omega))
   obtain rfl:i=0:=by omega
   rw[mN,iO];exact⟨aV rfl rfl (by simp[hj]),bY rfl rfl _⟩
  .exact m.1 r d
 .have f:=au (((sat_iff.1 h).1 r d).val j' l)
  simp only[add_add]at e;rw[<-e]at f;simp at f
theorem Sat.inst(h:Sat Ok w (r::M))(p:Nat):Sat Ok w (cD M p r):=by
 refine h.map (λi=>if i=p then 0 else i+1) (λi r' d=>?_) (λi j r' d _ e=>?_)
 .rw[dP]at d
  by_cases z:i=p
  .simp only[z,if_true]at d ⊢
   cases f:nth M p with
   |none=>rw[f]at d;cases d
   |some q=>rw[f]at d;simp at d;exact⟨r,rfl,.inl d.symm⟩
  .simp only[z,if_false]at d ⊢;exact⟨r',d,.inl rfl⟩
 .split at e<;>split at e<;>omega
theorem FC(w:aj)(ty:TypeId){b off:Nat}{x u:ay}(H:w.cell? ⟨nb,0,none⟩=some x)(q:x.oneCell'=true)(D:w.cell? ⟨b,off+n,none⟩=some u)(G:w.frozen? ⟨b,off+n,none⟩=false)(hc:n<c):
 (Builtin.append_ #[152,152] ty #[.slice (some ⟨b,off,none⟩) n c,.slice (some ⟨nb,0,none⟩) 1 c2]).run prog w=.ok (.slice (some ⟨b,off,none⟩) (n+1) c) (w.setCell ⟨b,off+n,none⟩ x)/\
 ∀ev∈(Builtin.append_ #[152,152] ty #[.slice (some ⟨b,off,none⟩) n c,.slice (some ⟨nb,0,none⟩) 1 c2]).events prog w #[],(∃ad,ev.loc=.cell ad/\ev.write=false/\ad.block=nb)\/∃ad,ev.loc=.cell ad/\ad.block=b:=by
 obtain⟨inf,z,A,s,S,f,R,Q,O⟩:=kC t152
 have o:∀(j:Nat)(v:ay),[x][j]? =some v->w.cell? ((⟨nb,0,none⟩:Addr).add j)=some v:=λj v hj=>by
  rcases j with _|j
  .simp at hj;subst hj;exact H
  .simp at hj
 have m:n+1<=c:=hc;have F:=run_append_room_cells (P:=prog) w 152 ty 4 inf A s b off n c ⟨nb,0,none⟩ 1 c2 [x] (by rw[f];rfl) o (by simpa using q) m (λj hj=>by simp at hj;subst hj;rw[f,mN,iO,D];rfl) (λj hj=>by simp at hj;subst hj;rw[f,mN,iO,G]);rw[f,mN]at F;refine⟨F,λev d=>?_⟩;have i:=run_firstCells_some (P:=prog) w inf.size 1 ⟨nb,0,none⟩ 1 c2 [x] (by rw[f];rfl) o;simp[Builtin.append_,run_underlying A,sizeOf,typeInfo,s,Builtin.lenOf,m,i,dJ,f]at d;rw[f]at i;simp only[i,xE,storeCells,xB,dJ,iO]at d;rw[run_store prog w _ x _ q,events_store prog w _ _ x _ q,D]at d;simp[G]at d;rcases d with d|rfl
 .rcases events_firstCells_in (P:=prog) (·=nb) 1 1 _ w _ (λa l c e=>by
   cases e
   exact⟨rfl,λj hj=>isSome_of_list (w:=w) o (by simpa using hj)⟩) ev d with h|⟨ad,K,J,I⟩
  .simp at h
  .exact .inl ⟨ad,K,J,I⟩
 .exact .inr ⟨_,rfl,rfl⟩
theorem apN(F:aC prog main (DX Ok) Ψ)(hB:HB B Ok){b:aE}(hk:b.kind=.normal){a:Act}{t:eF}(s x d p:Nat){base:Addr}{cx:Nat}(ho:lm t=true)(A:oM (aQ t) s x d 152=true)(hd:d<N)(Z:look E s=some (.slice (some base) 0 0))(V:look E x=some (.slice (some ad) L.length cx))(R:nth M p=some (CH ad L))(hBB:B<=B')(h:B<=base.block/\base.block<w.heap.size)(hL:L≠[])(o:L.length<10000000)(I:B<=ad.block)(S:St Ok B' N E M c a w)(K:∀g' Q f a' w',Sat Ok w' (fR ⟨g',0,none⟩ 1 Q f true::M)->(∀j,j<L.length->Q j=[.bool (L.getD j false)])->B'<=g'->w.heap.size<=w'.heap.size->L.length<=f->aN ((d,.slice (some ⟨g',0,none⟩) L.length f)::E) N a'->a'.defers=a.defers->Ψ (G (b.at a' (jY t)) cs) w'):Ψ (G (b.at a t) cs) w:=by
 obtain⟨U,i,r,kk,X,D,hn⟩:=dO ho;obtain⟨g1,g2,g3⟩:=iZ A;have l:∀q v,look E q=some v->a.eval (.tmp q)=v:=λq v o=>by rw[S.env.eval (by simp[kn,o])];simp[ev,o]
 have hl:0<L.length:=by cases L with|nil=>exact absurd rfl hL|cons=>simp
 have O:=S.sat;have Y:=S.sz;have P:HB w.heap.size Ok:=λa wr z=>hB a wr (by omega)
 have H:∀j (u:ay),(L.map Value.bool)[j]? =some u->w.cell? (ad.add j)=some u:=λj u hj=>by
  have e:j<L.length:=by simpa using(nS.1 hj).1
  have:=O.val p _ R (j,0) ⟨e,aG⟩;simp only[aJ.get,mN,Addr.add_add,iO]at this;rw[this];simp[e]at hj;simp[e,hj]
 rw[X];refine aC.Pz t152 (by decide) F D (by simp[Region.wanted,g1]) (by rw[hk];decide) (.tmp s) (.tmp x) g3 (olds:=[]) (news:=L.map Value.bool) (l s _ Z) (l x _ V) rfl (λa _ j u hj=>by cases hj) (λz=>by cases z) (by simp) H (λu W=>by obtain⟨y,_,rfl⟩:=gL.1 W;rfl) (by omega) (by omega) (λbb hb=>?_) ⟨?_,λa J=>hB a false (by rw[J];exact I)⟩ λf rs w1 hc Vp m=>?_
 .cases hb;exact⟨h.2,λa J=>hB a false (by rw[J];exact h.1)⟩
 .have:=O.lt R (j:=(0,0)) ⟨hl,aG⟩
  rwa[addBlock,addBlock]at this
 .rw[<-hn,g2,bD]
  subst m;have T:=O.Ur P ((([]:iG)++L.map Value.bool).toArray++rs) 4;have e2:((([]:iG)++L.map Value.bool).toArray++rs).size=f:=by simp;omega
  rw[e2]at T;refine K w.heap.size _ f _ _ T (λj hj=>?_) (by omega) (by simp) (by omega) (S.env.put hd) (put_defers _ _ _);rw[tI (by simpa using hj)];simp[hj]
theorem apB(F:aC prog main (DX Ok) Ψ)(hB:HB B Ok){b:aE}(hk:b.kind=.normal){a:Act}{t:eF}(s x d p p2:Nat){base:eN}{g o len cap:Nat}{y:Bool}(ho:lm t=true)(JP:oM (aQ t) s x d 152=true)(hd:d<N)(hs:look E s=some (.slice base len cap))(W:look E x=some (.slice (some ⟨nb,0,none⟩) 1 1))(U:base=some ⟨g,o,none⟩\/base=none/\o=0/\cap=0)(J:nth M p=some (fR ⟨g,0,none⟩ 1 v (o+cap) true))(Qg:nth M p2=some (bR nb [.bool y]))(A:∀ba,base=some ba->g<w.heap.size/\∀(ad:Addr)(wr:Bool),ad.block=g->Ok ad wr)(hle:len<=cap)(hq:len<1000000)(hBB:B<=B')(P:B<=nb)(S:St Ok B' N E M c a w)(K:∀g' H V D a' w',Sat Ok w' (cD M p (fR ⟨g',0,none⟩ 1 V (H+D) true))->(∀j,j<len->(V (H+j)).getD 0 undef=(v (o+j)).getD 0 undef)->(V (H+len)).getD 0 undef=.bool y->(base=some ⟨g',H,none⟩\/B'<=g'/\H=0)->w.heap.size<=w'.heap.size->len+1<=D->aN ((d,.slice (some ⟨g',H,none⟩) (len+1) D)::E) N a'->a'.defers=a.defers->Ψ (G (b.at a' (jY t)) cs) w'):Ψ (G (b.at a t) cs) w:=by
 obtain⟨ops,i,r,kk,ht,O,hn⟩:=dO ho;obtain⟨g1,g2,g3⟩:=iZ JP;have l:∀q v,look E q=some v->a.eval (.tmp q)=v:=λq v hq=>by rw[S.env.eval (by simp[kn,hq])];simp[ev,hq]
 have I:=S.sat;have kI:=S.sz;have hB':HB w.heap.size Ok:=λa wr z=>hB a wr (by omega)
 have m:w.cell? ⟨nb,0,none⟩=some (.bool y):=I.val p2 _ Qg (0,0) ⟨aG,aG⟩;rw[ht]
 by_cases hc:len<cap
 .rcases U with Q|⟨_,_,z⟩
  .obtain⟨z2,z3⟩:=A _ Q
   subst Q;have hj:(fR ⟨g,0,none⟩ 1 v (o+cap) true).has (o+len,0):=⟨by show o+len<o+cap;omega,aG⟩;have ea:(fR ⟨g,0,none⟩ 1 v (o+cap) true).ad (o+len,0)=⟨g,o+len,none⟩:=by simp[dJ]
   have Z:=I.val p _ J _ hj;have T:=((I.ok p _ J _ hj).2 rfl).2;rw[ea]at Z T;refine F.NO O (by simp[Region.wanted,g1]) (by rw[hk];decide) λd' K' hK=>?_
   obtain⟨hr,he⟩:=FC (w.at d') (aQ t).type (n:=len) (c:=cap) (c2:=1) m rfl Z T hc;refine uponK_append (.tmp s) (.tmp x) 152 g3 (l s _ hs) (l x _ W) hr (hK _ _ ⟨jU (g:=some g) (λe Y=>?_) ⟨rfl,rfl,rfl,by simp[World.setCell],λk _ hk=>?_⟩ (λbb e=>?_) (λad wr e=>z3 ad wr (by simpa using e)),F.at' _ (w.setCell ⟨g,o+len,none⟩ (.bool y)) d' ?_⟩)
   .have hm:=mem_listed Y
    rw[events_append_op (.tmp s) (.tmp x) 152 g3 (l s _ hs) (l x _ W)]at hm;rcases he e hm with ⟨ad,e1,e2,R⟩|⟨ad,e1,R⟩
    .exact .inl ⟨ad,e1,rfl,by rw[e2];exact hB ad false (by rw[R];exact P),by rw[R];show nb<(w.heap.modify _ _).size;simpa using au m⟩
    .exact .inl ⟨ad,e1,rfl,z3 ad _ R,by rw[R];show g<(w.heap.modify _ _).size;simpa using z2⟩
   .have:g≠k:=λz=>hk (by rw[z])
    simp[World.setCell,rA,this]
   .cases e
    have:=Z;unfold World.cell? at this;cases hh:w.heap[g]? with
    |none=>rw[hh]at this;cases this
    |some o=>cases o with
     |cells c t f=>exact⟨c,t,f,hh⟩
     |_=>rw[hh]at this;cases this
   .rw[<-hn,g2]
    have h3:=I.set J rfl hj rfl (.bool y);rw[ea]at h3;have h4:=h3.re p (kF _ J) rfl (λj=>[if j=o+len then .bool y else(v j).getD 0 undef]) (λj hj f T=>?_)
    .rw[jL]at h4
     exact K g o _ cap _ _ h4 (λj hj=>by simp[xx hj]) (by simp) (.inl rfl) (by simp[World.setCell]) hc (S.env.put hd) (put_defers _ _ _)
    .have Ik:f<1:=T
     obtain rfl:f=0:=by omega
     simp only[aJ.set,eH]
     by_cases e:j=o+len
     .simp[e]
     .have e':(j==o+len)=false:=by simpa using e
      simp[e,e']
  .omega
 .have hce:cap=len:=by omega
  have Vr:∀ba,base=some ba->∀(j:Nat)(u:ay),((List.range len).map λj=>(v (o+j)).getD 0 undef)[j]? =some u->w.cell? (ba.add j)=some u:=λba h j u hj=>by
   have kU:j<len:=by simpa using(nS.1 hj).1
   have:=I.val p _ J (o+j,0) ⟨by show o+j<o+cap;omega,aG⟩
   obtain rfl:ba=⟨g,o,none⟩:=by
    rcases U with z|z
    .rw[z]at h;exact(Option.some.inj h).symm
    .rw[z.1]at h;cases h
   simp only[aJ.get,mN,dJ,iO,bD]at this;rw[dJ,this];simp[kU]at hj;simp[hj]
  refine aC.Pz t152 (by decide) F O (by simp[Region.wanted,g1]) (by rw[hk];decide) (.tmp s) (.tmp x) g3 (olds:=(List.range len).map λj=>(v (o+j)).getD 0 undef) (news:=[.bool y]) (l s _ hs) (l x _ W) (by simp) Vr (λz=>by rcases U with y|y;(rw[y]at z;cases z);omega) rfl (λj u hj=>?_) (by simp[Value.oneCell']) (by omega) (by omega) (λbb h=>by obtain rfl:bb=⟨g,o,none⟩:=(by rcases U with z|z;(rw[z]at h;exact(Option.some.inj h).symm);(rw[z.1]at h;cases h));exact⟨(A _ h).1,λa ha=>(A _ h).2 a false ha⟩) ⟨au m,λa ha=>hB a false (by rw[ha];exact P)⟩ λD rs w1 hc Vp X=>?_
  .rcases j with _|j
   .simp at hj;subst hj;exact m
   .simp at hj
  .rw[<-hn,g2]
   subst X;have h2:=I.Ur hB' (((List.range len).map (λj=>(v (o+j)).getD 0 undef)++[Value.bool y]).toArray++rs) 4;have e2:(((List.range len).map (λj=>(v (o+j)).getD 0 undef)++[Value.bool y]).toArray++rs).size=D:=by simp;omega
   rw[e2,<-bD D]at h2;refine K w.heap.size 0 _ D _ _ (h2.inst p) (λj hj=>?_) ?_ (.inr ⟨by omega,rfl⟩) (by simp) (by omega) (S.env.put hd) (put_defers _ _ _)
   .rw[bD,tI (by simp;omega)];simp[oZ,hj]
   .rw[bD,tI (by simp)];simp
def mY(B:Nat)(C:aX)(n:Nat)(gt:Nat->Gt)(gb:ru):Prop:=∀k,k<n->(gt k).la=[]\/∃ad i,gb k=some ad/\B<=ad.block/\nth C i=some (CH ad (gt k).la)
theorem mY.inc{C':aX}(h:mY B C n gt gb)(l:∀i r,nth C i=some r->∃j,nth C' j=some r):mY B C' n gt gb:=λk hk=>by
 rcases h k hk with z|⟨ad,i,f,e,d⟩
 .exact .inl z
 .obtain⟨j,hj⟩:=l i _ d;exact .inr ⟨ad,j,f,e,hj⟩
theorem mY.E8{p:eN}(h:mY B C n gt gb)(d:g.la=[]\/∃ad i,p=some ad/\B<=ad.block/\nth C i=some (CH ad g.la)):mY B C n (upd gt k g) (upd gb k p):=λj hj=>by
 unfold upd
 by_cases e:j=k
 .simp only[e,if_true];exact d
 .simp only[e,if_false];exact h j hj
def LS.qe(y:ko)(t j:Nat)(L:LS):LS:=
 if((L.gt j).st=0/\y.b<=(L.gt j).la.length\/(L.gt j).st=2/\((L.gt j).la.length:Int)=y.e)/\over y (L.gt j).la=true then(L.aS j ((L.gt j).turn L.now 1)).say t j 9 0
 else if(L.gt j).st=2/\((L.gt j).la.length:Int)=y.e then(L.aS j ((L.gt j).turn L.now 0)).say t j 11 0 else L
theorem u9{i:Nat}(h:i<L.length):dQ (L.take (i+1))=dQ (L.take i)+(if L.getD i false=true then 1 else 0):=by
 unfold dQ;rw[List.take_add_one,oY h,o8,oY h];cases d:L[i]<;>simp[d]
theorem qZ(L:fL):dQ L<=L.length:=List.length_filter_le _ _
theorem wG(F:aC prog main (DX Ok) Ψ)(hB:HB B Ok){bb:aE}(e:bb.kind=.normal)(q:bb.fn=117){cf:aE}{cs:cW}{M:aX}{gm t k x c B1:Nat}{st:Int}{ad:Addr}{L:fL}(S:L.length<=30)(o:B<=B1):
 ∀(m i:Nat)(j:Act)(w:aj),i+m=L.length->j.defers=[]->w.heap.size=B1->St Ok B1 168 [(14,i6 i),(13,i6 (dQ (L.take i))),(12,.slice (some ad) L.length c),(10,i6 st),(8,ptr x),(0,ptr gm),(1,i6 t),(2,i6 k)] (CH ad L::M) 0 j w->
   (∀a' w',a'.defers=[]->w'.heap.size=B1->St Ok B1 168 [(14,i6 L.length),(13,i6 (dQ L)),(12,.slice (some ad) L.length c),(10,i6 st),(8,ptr x),(0,ptr gm),(1,i6 t),(2,i6 k)] (CH ad L::M) 0 a' w'->Ψ (G (bb.at a' (pc prog 117 104 [false,false,false] [18])) (cf::cs)) w')->Ψ (G (bb.at j (pc prog 117 104 [false,false,false] [18])) (cf::cs)) w
 |0,i,j,w,I,d,l,u,K=>by
  rw[iO]at I;subst I;rw[List.take_length]at u;exact K j w d l u
 |m+1,i,j,w,I,d,l,u,K=>by
  have T:decide ((i:Int)<(L.length:Int))=true:=by simp;omega
  have R:IntKind.wrap .i64 ((i:Int)+1)=((i+1:Nat):Int):=by rw[aA (by omega) (by omega)];rfl
  have h:=u9 (L:=L) (i:=i) (by omega);have J:=qZ (L.take i);rw[rJ]at J;cases Q:L.getD i false with
  |true=>
   rw[Q,ah rfl]at h;have H:IntKind.wrap .i64 ((dQ (L.take i):Int)+1)=((dQ (L.take (i+1)):Nat):Int):=by rw[h,aA (by omega) (by omega)];rfl
   refine bA F hB e d u 32 [0,i,0,101] [2,2,2] [] [(14,i6 (IntKind.wrap .i64 ((↑i:Int)+1))),(13,i6 (IntKind.wrap .i64 ((↑(dQ (List.take i L)):Int)+1))),(12,.slice (some ad) (List.length L) c),(10,i6 st),(8,ptr x),(0,ptr gm),(1,i6 t),(2,i6 k)] (λM=>M) 0 136 [false,false,false,true,true] [18] [(List.getD L i false,true),(decide ((↑i:Int)<(↑(List.length L):Int)),true)] [((↑i:Int),List.length L)] [(1,(i,List.length L))] λP z s f A D O=>?_
   rw[R,H]at s;rw[show pc prog 117 136 [false,false,false,true,true] [18]=pc prog 117 104 [false,false,false] [18] by kernel_rfl];exact wG F hB e q S o m (i+1) P z (by omega) f (by omega) s K
  |false=>
   rw[Q,af (by decide)]at h;replace h:dQ (L.take (i+1))=dQ (L.take i):=h;refine bA F hB e d u 28 [0,i,0,101] [2,2,0] [] [(14,i6 (IntKind.wrap .i64 ((↑i:Int)+1))),(13,i6 (↑(dQ (List.take i L)):Int)),(12,.slice (some ad) (List.length L) c),(10,i6 st),(8,ptr x),(0,ptr gm),(1,i6 t),(2,i6 k)] (λM=>M) 0 132 [false,false,false,true,false] [18] [(List.getD L i false,false),(decide ((↑i:Int)<(↑(List.length L):Int)),true)] [((↑i:Int),List.length L)] [(1,(i,List.length L))] λP z s f A D O=>?_
   rw[R,<-h]at s;rw[show pc prog 117 132 [false,false,false,true,false] [18]=pc prog 117 104 [false,false,false] [18] by kernel_rfl];exact wG F hB e q S o m (i+1) P z (by omega) f (by omega) s K
theorem wH(F:aC prog main (DX Ok) Ψ)(hB:HB B Ok)(d:bb.kind=.normal)(Q:bb.fn=117){s:RS}(o:Bool)(hle:B<=B1){a0:Act}(P:a0.defers=[])(iI:w.heap.size=B1)(m:RV Ok s)(I:s.ta=some tg)(ht:t<s.l.tl)(O:s.l.el<1000000000)(hk:k<s.V.nl)(J:0<=(s.l.gt k).pd/\(s.l.gt k).pd<1000000)(R:mY B C s.V.nl s.l.gt s.gb)(S0:St Ok B1 168 [(bif o then 145 else 162,i6 k),(bif o then 144 else 161,ptr s.gm),(0,ptr s.gm),(1,i6 t),(2,i6 k)] (r::(mR s++C)) 0 a0 w)(K:∀w' ea ec vv gb gc C',(∀i r,nth C i=some r->∃j,nth C' j=some r)->Sat Ok w' (mR {s with ea:=ea,ec:=ec,vv:=vv,gb:=gb,gc:=gc,l:=(s.l.aS k ((s.l.gt k).turn s.l.now (bif o then 1 else 0))).say t k (bif o then 9 else 11) 0}++C')->RV Ok {s with ea:=ea,ec:=ec,vv:=vv,gb:=gb,gc:=gc,l:=(s.l.aS k ((s.l.gt k).turn s.l.now (bif o then 1 else 0))).say t k (bif o then 9 else 11) 0}->mY B C' s.V.nl (upd s.l.gt k ((s.l.gt k).turn s.l.now (bif o then 1 else 0))) gb->w.heap.size<=w'.heap.size->Ψ (G (cf.finish (.tuple #[])) cs) w'):
 Ψ (G (bb.at a0 (bif o then pc prog 117 151 [false,false,false,false,true,true] [18]else pc prog 117 179 [false,false,false,false,false,false,true] [18])) (cf::cs)) w:=by
 have h0:Sat Ok w (mR s++(r::C)):=Sat.back (A:=mR s) S0.sat;obtain⟨U,H⟩:∃U,U=r::C:=⟨_,rfl⟩;rw[<-H]at h0;have V:∀i r,nth C i=some r->∃j,nth U j=some r:=λi r h=>⟨i+1,by rw[H];exact h⟩
 clear H;cases o with
 |true=>
  simp only[cond_true]at*;refine bK F d P S0 146 99 #[ptr s.gm,i6 k,i6 1] λVC f=>?_
  refine zK F hB (s:=s) (C:=U) (st:=1) h0 (by omega) hk J λw2 h2 je=>f _ _ _ h2 λa2 B2 S2 D fV=>?_
  refine aq F hB d D S2 5 [] [] [] [(149,i6 k),(148,i6 t),(147,ptr s.gm)] (λM=>M) 0 157 [false,false,false,false,true,true] [18] λa3 w3 T z Z ji dX=>?_
  refine bK F d z T 150 82 #[ptr s.gm,i6 t,i6 k,i6 9,i6 0] λlq e=>?_
  refine kS F hB (s:=s.xH k 1) T.sat ⟨m.a,m.t,m.w,m.e⟩ (by omega) O I ht λg' cap' vs' w4 h4 q oB=>e _ _ _ h4 λa4 B4 S4 x Y=>?_
  refine aq F hB d x S4 2 [] [] [] [] (λM=>M) 0 160 [false,false,false,false,true,true] [18] λa5 W S u X kT jv=>?_
  refine cV F S d Q u [] (.tuple #[]) ?_;exact K W _ _ _ _ _ _ V S.sat q ((R.inc V).E8 (.inl rfl)) (by omega)
 |false=>
  simp only[cond_false]at*;refine bK F d P S0 163 99 #[ptr s.gm,i6 k,i6 0] λVC f=>?_
  refine zK F hB (s:=s) (C:=U) (st:=0) h0 (by omega) hk J λw2 h2 je=>f _ _ _ h2 λa2 B2 S2 D fV=>?_
  refine aq F hB d D S2 5 [] [] [] [(166,i6 k),(165,i6 t),(164,ptr s.gm)] (λM=>M) 0 185 [false,false,false,false,false,false,true] [18] λa3 w3 T z Z ji dX=>?_
  refine bK F d z T 167 82 #[ptr s.gm,i6 t,i6 k,i6 11,i6 0] λlq e=>?_
  refine kS F hB (s:=s.xH k 0) T.sat ⟨m.a,m.t,m.w,m.e⟩ (by omega) O I ht λg' cap' vs' w4 h4 q oB=>e _ _ _ h4 λa4 B4 S4 x Y=>?_
  refine aq F hB d x S4 2 [] [] [] [] (λM=>M) 0 188 [false,false,false,false,false,false,true] [18] λa5 W S u X kT jv=>?_
  refine cV F S d Q u [] (.tuple #[]) ?_;exact K W _ _ _ _ _ _ V S.sat q ((R.inc V).E8 (.inl rfl)) (by omega)
theorem Ks(F:aC prog main (DX Ok) Ψ)(hB:HB B Ok)(e:bb.kind=.normal)(D:bb.fn=117){s:RS}{Bx:Nat}(hL:L.length<=30)(P:B<=B1){a0:Act}(q:a0.defers=[])(iI:w.heap.size=B1)(W:RV Ok s)(J:s.ta=some tg)(ht:t<s.l.tl)(Q:s.l.el<1000000000)(hk:k<s.V.nl)(hyc:1<=y.c/\y.c<=100)(LP:(s.l.gt k).la=L)(DF:(s.l.gt k).st=0\/(s.l.gt k).st=2)(O:0<=(s.l.gt k).pd/\(s.l.gt k).pd<1000000)(H:mY B C s.V.nl s.l.gt s.gb)(R:St Ok B1 168 [(14,i6 L.length),(13,i6 (dQ L)),(12,.slice (some ad) L.length c),(10,i6 (s.l.gt k).st),(8,ptr Bx),(0,ptr s.gm),(1,i6 t),(2,i6 k)] (bR Bx [i6 y.k,i6 y.a,i6 y.b,i6 y.c,i6 y.d,i6 y.e]::(mR s++C)) 0 a0 w)(K:∀w' ea ec vv gb gc C',(∀i r,nth C i=some r->∃j,nth C' j=some r)->Sat Ok w' (mR {s with ea:=ea,ec:=ec,vv:=vv,gb:=gb,gc:=gc,l:=s.l.qe y t k}++C')->RV Ok {s with ea:=ea,ec:=ec,vv:=vv,gb:=gb,gc:=gc,l:=s.l.qe y t k}->mY B C' s.V.nl (s.l.qe y t k).gt gb->w.heap.size<=w'.heap.size->Ψ (G (cf.finish (.tuple #[])) cs) w'):
 Ψ (G (bb.at a0 (pc prog 117 104 [false,false,false] [18])) (cf::cs)) w:=by
 have g1:decide ((L.length:Int)<(L.length:Int))=false:=by simp
 have Av:=qZ L;have SK:0<=y.c*(L.length:Int):=rI (by omega) (by omega);have Xq:y.c*(L.length:Int)<=100*30:=xy hyc.2 (by omega) (by omega) (by omega);have tZ:IntKind.wrap .i64 ((dQ L:Int)*100)=(dQ L:Int)*100:=aA (by omega) (by omega);have DE:IntKind.wrap .i64 (y.c*(L.length:Int))=y.c*(L.length:Int):=aA (by omega) (by omega);unfold LS.qe at K;rw[LP]at K
 have k1:((s.l.gt k).st=0/\y.b<=L.length\/(s.l.gt k).st=2/\(L.length:Int)=y.e)/\over y L=true->Ψ (G (bb.at a0 (pc prog 117 104 [false,false,false] [18])) (cf::cs)) w:=λh=>by
  rw[ah h]at K;obtain⟨h1,h2⟩:=h;have Y:y.c*(L.length:Int)<=(dQ L:Int)*100:=by simpa [over]using h2
  rcases h1 with ⟨h3,h4⟩|⟨h3,h4⟩
  .refine bA F hB e q R 47 [0,0,3,1,0,0,2,1] [0,2,3,3,3,3,2,2,3] [] [(145,i6 k),(144,ptr s.gm),(0,ptr s.gm),(1,i6 t),(2,i6 k)] (λM=>M) 0 151 [false,false,false,false,true,true] [18] [(decide (IntKind.wrap .i64 ((↑(dQ L):Int)*100)≥IntKind.wrap .i64 (y.c*(↑(List.length L):Int))),true),(decide ((↑(List.length L):Int)≥y.b),true),((s.l.gt k).st==0,true),(decide ((↑(List.length L):Int)<(↑(List.length L):Int)),false)] [] [] λu o m d x f I=>?_
   exact wH F hB e D true P d (by omega) W J ht Q hk O H m λw' ea ec vv gb gc C' V U T S z5=>K w' ea ec vv gb gc C' V U T S (by omega)
  .refine bA F hB e q R 61 [0,0,3,1,0,0,5,1] [0,0,1,1,1,1,1,1,2,3,3,3,3,2,2] [] [(145,i6 k),(144,ptr s.gm),(0,ptr s.gm),(1,i6 t),(2,i6 k)] (λM=>M) 0 165 [false,false,false,false,false,true] [18] [(decide (IntKind.wrap .i64 ((↑(dQ L):Int)*100)≥IntKind.wrap .i64 (y.c*(↑(List.length L):Int))),true),((↑(List.length L):Int)==y.e,true),((s.l.gt k).st==2,true),((s.l.gt k).st==0,false),(decide ((↑(List.length L):Int)<(↑(List.length L):Int)),false)] [] [] λu o m d x f I=>?_
   rw[show pc prog 117 165 [false,false,false,false,false,true] [18]=pc prog 117 151 [false,false,false,false,true,true] [18] by kernel_rfl];exact wH F hB e D true P d (by omega) W J ht Q hk O H m λw' ea ec vv gb gc C' V U T S z5=>K w' ea ec vv gb gc C' V U T S (by omega)
 by_cases hJ:((s.l.gt k).st=0/\y.b<=L.length\/(s.l.gt k).st=2/\(L.length:Int)=y.e)/\over y L=true
 .exact k1 hJ
 rw[af hJ]at K;have Z:over y L=true->¬((s.l.gt k).st=0/\y.b<=L.length\/(s.l.gt k).st=2/\(L.length:Int)=y.e):=λz h=>hJ ⟨h,z⟩
 rcases DF with WU|X
 .have Ce:¬((s.l.gt k).st=2/\(L.length:Int)=y.e):=λz=>by omega
  rw[af Ce]at K
  have fin:∀u o,u.defers=[]->w.heap.size<=o.heap.size->St Ok B1 168 [] (bR Bx [i6 y.k,i6 y.a,i6 y.b,i6 y.c,i6 y.d,i6 y.e]::(mR s++C)) 0 u o->Ψ (G (bb.at u (pc prog 117 177 [false,false,false,false,false,false,false] [18])) (cf::cs)) o:=λu o d f m=>by
   refine cV F m e D d [] (.tuple #[]) ?_;exact K o _ _ _ _ _ _ (λi r h=>⟨i,h⟩) m.sat.tail W H (by omega)
  by_cases ZW:y.b<=L.length
  .have Y:¬y.c*(L.length:Int)<=(dQ L:Int)*100:=λz=>Z (by simpa [over]using z) (.inl ⟨WU,ZW⟩)
   refine bA F hB e q R 73 [0,0,3,1,0,0,2,1] [0,2,3,3,3,3,2,0,0,1,1,1,1,1,1,0,1,1,1,1,1] [] [] (λM=>M) 0 177 [false,false,false,false,false,false,false] [18] [((s.l.gt k).st==2,false),((s.l.gt k).st==2,false),(decide (IntKind.wrap .i64 ((↑(dQ L):Int)*100)≥IntKind.wrap .i64 (y.c*(↑(List.length L):Int))),false),(decide ((↑(List.length L):Int)≥y.b),true),((s.l.gt k).st==0,true),(decide ((↑(List.length L):Int)<(↑(List.length L):Int)),false)] [] [] λu o m d x f I=>?_
   exact fin u o d f m
  .refine bA F hB e q R 73 [0,0,3,1,0,0,2,1] [0,2,3,3,3,3,0,1,0,1,1,1,1,1,1,0,1,1,1,1,1] [] [] (λM=>M) 0 177 [false,false,false,false,false,false,false] [18] [((s.l.gt k).st==2,false),((s.l.gt k).st==2,false),(decide ((↑(List.length L):Int)≥y.b),false),((s.l.gt k).st==0,true),(decide ((↑(List.length L):Int)<(↑(List.length L):Int)),false)] [] [] λu o m d x f I=>?_
   exact fin u o d f m
 .by_cases A:(L.length:Int)=y.e
  .have Y:¬y.c*(L.length:Int)<=(dQ L:Int)*100:=λz=>Z (by simpa [over]using z) (.inr ⟨X,A⟩)
   rw[ah ⟨X,A⟩]at K;refine bA F hB e q R 75 [0,0,3,1,0,0,5,1,0,0,5,1] [0,0,1,1,1,1,1,1,2,3,3,3,3,2,0,2,3,3,3,3,2] [] [(162,i6 k),(161,ptr s.gm),(0,ptr s.gm),(1,i6 t),(2,i6 k)] (λM=>M) 0 179 [false,false,false,false,false,false,true] [18] [((↑(List.length L):Int)==y.e,true),((s.l.gt k).st==2,true),(decide (IntKind.wrap .i64 ((↑(dQ L):Int)*100)≥IntKind.wrap .i64 (y.c*(↑(List.length L):Int))),false),((↑(List.length L):Int)==y.e,true),((s.l.gt k).st==2,true),((s.l.gt k).st==0,false),(decide ((↑(List.length L):Int)<(↑(List.length L):Int)),false)] [] [] λu o m d x f I=>?_
   exact wH F hB e D false P d (by omega) W J ht Q hk O H m λw' ea ec vv gb gc C' V U T S z5=>K w' ea ec vv gb gc C' V U T S (by omega)
  .rw[af (λz=>A z.2)]at K
   refine bA F hB e q R 73 [0,0,3,1,0,0,5,1,0,0,5,1] [0,0,1,1,1,1,1,1,2,3,3,3,3,0,1,2,3,3,3,3,0] [] [] (λM=>M) 0 177 [false,false,false,false,false,false,false] [18] [((↑(List.length L):Int)==y.e,false),((s.l.gt k).st==2,true),((↑(List.length L):Int)==y.e,false),((s.l.gt k).st==2,true),((s.l.gt k).st==0,false),(decide ((↑(List.length L):Int)<(↑(List.length L):Int)),false)] [] [] λu o m d x f I=>?_
   refine cV F m e D d [] (.tuple #[]) ?_;exact K o _ _ _ _ _ _ (λi r h=>⟨i,h⟩) m.sat.tail W H (by omega)
theorem Sat.U2{r':aJ}(h:Sat Ok w (r::M))(s:r'.wr=false)(F:r'.row=none)(hj:∀j,r'.has j->∃i,r.has i/\r'.ad j=r.ad i/\r'.get j=r.get i):Sat Ok w (r'::M):=by
 rw[sat_iff]at h ⊢;obtain⟨D,A⟩:=h;have H:=D r (bS ..);refine⟨λx m=>?_,dI.2 ⟨λx m q j j' d u e=>?_,(dI.1 A).2⟩⟩
 .rcases ak.1 m with rfl|m
  .refine⟨λj d=>?_,λj d=>⟨?_,λz=>?_⟩,λz=>?_,λg e n z=>?_⟩
   .obtain⟨i,l,f,o⟩:=hj j d;rw[f,o];exact H.val i l
   .obtain⟨i,l,f,o⟩:=hj j d;rw[f];exact(H.ok i l).1
   .rw[s]at z;cases z
   .rw[s]at z;cases z
   .rw[F]at z;cases z
  .exact D x (aO _ m)
 .obtain⟨i,l,f,o⟩:=hj j d
  refine(dI.1 A).1 x m (.inr ?_) i j' l u (by rw[<-f];exact e);rcases q with z|z
  .rw[s]at z;cases z
  .exact z
theorem qj{L:LS}(d:(L.tk t).q k=(L.gt k).pd)(hl:¬(bh b=3\/bh b=5)):L.count y t k b=(L.aS k {L.gt k with la:=(L.gt k).keep y (decide (b.k≠1))}).qe y t k:=by
 have e:∀g:Gt,(L.aS k g).gt k=g:=λg=>by simp[LS.aS,upd]
 have e2:∀g g':Gt,(L.aS k g).aS k g'=L.aS k g':=λg g'=>by
  unfold LS.aS
  congr 1
  funext j;unfold upd;by_cases h:j=k<;>simp[h]
 unfold LS.count LS.qe;rw[af (by rw[d];simp),af hl];simp only[e,e2]
 rfl
theorem Q0{gb:ru}{gc:cm}{c:Nat}{L:fL}{p:eN}(j f:Nat)(h:f<8):(nN (upd gt k {gt k with la:=L} j) (upd gb k p j) (upd gc k c j)).getD f undef=Fa k (λj f=>(nN (gt j) (gb j) (gc j)).getD f undef) [(5,.slice p L.length c)] j f:=by
 simp only[Fa];unfold eH upd
 by_cases e:j=k
 .subst e
  rcases f with _|_|_|_|_|_|_|_|f
  all_goals first|omega|simp[nN]
 .have d:(j==k)=false:=by simpa using e
  simp[e,d]
theorem CA(F:aC prog main (DX Ok) Ψ)(hB:HB B Ok)(z:bb.kind=.normal)(D:bb.fn=117){s:RS}{o Q o2:Nat}{O:fH}(hL:L.length<=30)(x:B<=B1){I:Act}(jf:I.defers=[])(S:w.heap.size=B1)(P:RV Ok s)(U:s.ta=some tg)(ht:t<s.l.tl)(Z:s.l.el<1000000000)(hk:k<s.V.nl)(T:1<=y.c/\y.c<=100)(q:(s.l.gt k).st=0\/(s.l.gt k).st=2)(u:0<=(s.l.gt k).pd/\(s.l.gt k).pd<1000000)(Vx:mY B C s.V.nl s.l.gt s.gb)(hLe:L=(s.l.gt k).keep y (decide (b.k≠1)))(hn:n=L.length)(hq:(s.l.tk t).q k=(s.l.gt k).pd)(X:¬(bh b=3\/bh b=5))(Ax:B<=ad.block)(W:∀j,j<L.length->∃i,i<c2/\ad.add j=(⟨Q,o2,none⟩:Addr).add i/\(O i).getD 0 undef=.bool (L.getD j false))(S0:St Ok B1 168 [(14,i6 0),(13,i6 0),(12,.slice (some ad) n c),(10,i6 (s.l.gt k).st),(8,ptr o),(0,ptr s.gm),(1,i6 t),(2,i6 k)] (bu 15 (k,5) (.slice (some ad) n c) (fR ⟨Q,o2,none⟩ 1 O c2 true::bR o [i6 y.k,i6 y.a,i6 y.b,i6 y.c,i6 y.d,i6 y.e]::(mR s++C))) 0 I w)(K:∀w' ea ec vv gb gc C',(∀i r,nth C i=some r->∃j,nth C' j=some r)->Sat Ok w' (mR {s with ea:=ea,ec:=ec,vv:=vv,gb:=gb,gc:=gc,l:=s.l.count y t k b}++C')->RV Ok {s with ea:=ea,ec:=ec,vv:=vv,gb:=gb,gc:=gc,l:=s.l.count y t k b}->mY B C' s.V.nl (s.l.count y t k b).gt gb->w.heap.size<=w'.heap.size->Ψ (G (cf.finish (.tuple #[])) cs) w'):
 Ψ (G (bb.at I (pc prog 117 104 [false,false,false] [18])) (cf::cs)) w:=by
 subst hn;have h1:=Sat.gw (M:=fR ⟨Q,o2,none⟩ 1 O c2 true::bR o [i6 y.k,i6 y.a,i6 y.b,i6 y.c,i6 y.d,i6 y.e]::(mR s++C)) (p:=15) (k:=k) (a:=s.ga) (c:=8) (n:=s.V.nl) (v:=λj=>nN (s.l.gt j) (s.gb j) (s.gc j)) rfl [(5,.slice (some ad) L.length c)] (λj=>nN (upd s.l.gt k {s.l.gt k with la:=L} j) (upd s.gb k (some ad) j) (upd s.gc k c j)) (λj f hf=>Q0 j f hf) S0.sat;obtain⟨e,d⟩:∃e:RS,e={s with gb:=upd s.gb k (some ad),gc:=upd s.gc k c,l:=s.l.aS k {s.l.gt k with la:=L}}:=⟨_,rfl⟩;have h2:Sat Ok w (fR ⟨Q,o2,none⟩ 1 O c2 true::(bR o [i6 y.k,i6 y.a,i6 y.b,i6 y.c,i6 y.d,i6 y.e]::mR e++C)):=by rw[d];exact h1
 have h3:Sat Ok w (CH ad L::(bR o [i6 y.k,i6 y.a,i6 y.b,i6 y.c,i6 y.d,i6 y.e]::mR e++C)):=h2.U2 rfl rfl λj hj=>by
  obtain⟨j,f⟩:=j;obtain⟨i,i1,i2,i3⟩:=W j hj.1;have hf:f<1:=hj.2;obtain rfl:f=0:=by omega
  exact⟨(i,0),⟨i1,aG⟩,by simp only[mN];rw[i2],i3.symm⟩
 have m:(e.l.gt k)={s.l.gt k with la:=L}:=by rw[d];simp[LS.aS,upd]
 have S1:St Ok B1 168 [(14,i6 ((0:Nat):Int)),(13,i6 (dQ (L.take 0))),(12,.slice (some ad) L.length c),(10,i6 (s.l.gt k).st),(8,ptr o),(0,ptr s.gm),(1,i6 t),(2,i6 k)] (CH ad L::(bR o [i6 y.k,i6 y.a,i6 y.b,i6 y.c,i6 y.d,i6 y.e]::mR e++C)) 0 I w:=⟨S0.env,h3,S0.sz⟩;refine wG F hB z D hL x L.length 0 I w (bD _) jf S S1 λa2 w2 jQ R J=>?_
 have V:s.l.count y t k b=e.l.qe y t k:=by rw[qj hq X,<-hLe,d]
 rw[V]at K
 have H:mY B (CH ad L::C) e.V.nl e.l.gt e.gb:=by
  rw[d];exact(Vx.inc (λi r h=>⟨i+1,h⟩)).E8 (.inr ⟨ad,0,rfl,Ax,rfl⟩)
 rw[<-(show(e.l.gt k).st=(s.l.gt k).st by rw[m])]at J q;rw[<-(show(e.l.gt k).pd=(s.l.gt k).pd by rw[m])]at u;have Y:e.gm=s.gm:=by rw[d]
 rw[<-Y]at J;refine Ks F hB z D (s:=e) (C:=CH ad L::C) (tg:=tg) hL x jQ R (by rw[d];exact⟨P.a,P.t,P.w,P.e⟩) (by rw[d];exact U) (by rw[d];exact ht) (by rw[d];exact Z) (by rw[d];exact hk) T (by rw[m]) q u H ⟨J.env,Sat.back (A:=bR o [i6 y.k,i6 y.a,i6 y.b,i6 y.c,i6 y.d,i6 y.e]::mR e) J.sat,J.sz⟩ λw' ea ec vv gb gc C' z1 z2 z3 z4 z5=>?_
 refine K w' ea ec vv gb gc C' (λi r h=>z1 (i+1) r h) ?_ ?_ ?_ (by omega)
 .rw[d]at z2 ⊢;exact z2
 .rw[d]at z3 ⊢;exact z3
 .rw[d]at z4 ⊢;exact z4
theorem CB(F:aC prog main (DX Ok) Ψ)(hB:HB B Ok)(d:bb.kind=.normal)(iK:bb.fn=117){s:RS}{q g:Nat}{a0:Act}(hv:RV Ok s)(hle:B<=B1)(iI:w.heap.size=B1)(jf:a0.defers=[])(U:s.ta=some tg)(ht:t<s.l.tl)(Ar:s.l.el<1000000000)(hk:k<s.V.nl)(X:mY B C s.V.nl s.l.gt s.gb)(hBx:B<=q)(hg:sW y (s.l.gt k) 1000000000000 0)(Z:B<=g)(Z3:g<w.heap.size)(Qc:∀j,j<(s.l.gt k).la.length->v j=[.bool ((s.l.gt k).la.getD j false)])(hlc:(s.l.gt k).la.length<=c)(hy:(1<=y.a/\y.a<=20)/\(1<=y.c/\y.c<=100)/\(1<=y.e/\y.e<=9))(V:(s.l.gt k).st=0\/(s.l.gt k).st=2)(hq:(s.l.tk t).q k=(s.l.gt k).pd)(W:¬(bh b=3\/bh b=5))(S0:St Ok B1 168 [(73,.slice (some ⟨g,0,none⟩) (s.l.gt k).la.length c),(10,i6 (s.l.gt k).st),(9,ptr (q+1)),(8,ptr q),(0,ptr s.gm),(1,i6 t),(2,i6 k)] (fR ⟨g,0,none⟩ 1 v c true::bR (q+1) [i6 b.k,i6 b.n,.slice ho hl hc]::(bR q [i6 y.k,i6 y.a,i6 y.b,i6 y.c,i6 y.d,i6 y.e]::(mR s++C))) 0 a0 w)(K:∀w' ea ec vv gb gc C',(∀i r,nth C i=some r->∃j,nth C' j=some r)->Sat Ok w' (mR {s with ea:=ea,ec:=ec,vv:=vv,gb:=gb,gc:=gc,l:=s.l.count y t k b}++C')->RV Ok {s with ea:=ea,ec:=ec,vv:=vv,gb:=gb,gc:=gc,l:=s.l.count y t k b}->mY B C' s.V.nl (s.l.count y t k b).gt gb->w.heap.size<=w'.heap.size->Ψ (G (cf.finish (.tuple #[])) cs) w'):
 Ψ (G (bb.at a0 (pc prog 117 54 [false,false] [18])) (cf::cs)) w:=by
 have SN:(s.l.gt k).la.length<=20:=by
  rcases hg.st with ⟨_,z⟩|⟨z,_⟩|⟨_,z⟩<;>omega
 have JN:=hg.pd;refine aq F hB d jf S0 9 [1,0,0,1] [] [] [(78,.slice (some ⟨B1,0,none⟩) 1 1),(74,.slice (some ⟨g,0,none⟩) (List.length (s.l.gt k).la) c),(10,i6 (s.l.gt k).st),(8,ptr q),(0,ptr s.gm),(1,i6 t),(2,i6 k)] (λM=>bR (B1) [.bool (b.k !=1)]::(M)) 1 63 [false,false] [18] λa1 w1 S1 kJ iH jA dS=>?_
 refine apB F hB d 74 78 79 1 0 (g:=g) (o:=0) (by kernel_rfl) (by kernel_rfl) (by decide) rfl rfl (.inl rfl) (by rw[bD];rfl) rfl (λba z=>⟨by omega,λad wr h=>hB ad wr (by rw[h];exact Z)⟩) hlc (by omega) (by omega) (by omega) S1 λu o2 v2 c2 a2 w2 h2 z1 z2 z3 z4 z5 Qv A=>?_
 obtain rfl:o2=0:=by
  rcases z3 with z|z
  .cases z;rfl
  .exact z.2
 simp only[bD]at z1 z2 h2;rw[show jY (pc prog 117 63 [false,false] [18])=pc prog 117 64 [false,false] [18] by kernel_rfl];have T:St Ok w2.heap.size 168 _ _ 0 a2 w2:=⟨Qv,h2.sub (M':=fR ⟨u,0,none⟩ 1 v2 c2 true::bR q [i6 y.k,i6 y.a,i6 y.b,i6 y.c,i6 y.d,i6 y.e]::(mR s++C)) (.cons _ (.cons_cons _ (.cons _ (.refl _)))),rfl⟩;replace T:=T.dD [(79,.slice (some ⟨u,0,none⟩) ((s.l.gt k).la.length+1) c2),(10,i6 (s.l.gt k).st),(8,ptr q),(0,ptr s.gm),(1,i6 t),(2,i6 k)] rfl;replace A:=A.trans kJ;generalize fV:w2.heap.size=B2 at T
 have O:B<=u:=by
  rcases z3 with z|z
  .cases z;exact Z
  .omega
 have J:∀j,j<(s.l.gt k).la.length+1->(v2 j).getD 0 undef=.bool (((s.l.gt k).la++[decide (b.k≠1)]).getD j false):=λj hj=>by
  by_cases e:j=(s.l.gt k).la.length
  .subst e;rw[z2];by_cases h1:b.k=1<;>simp[h1,List.getD]
  .rw[z1 j (by omega),Qc j (by omega)]
   simp[List.getD,oZ (show j<(s.l.gt k).la.length by omega)]
 by_cases D:(s.l.gt k).st=0/\((s.l.gt k).la.length:Int)+1>y.a
 .have f:(s.l.gt k).keep y (decide (b.k≠1))=((s.l.gt k).la++[decide (b.k≠1)]).tail:=by unfold Gt.keep;rw[ah D]
  obtain⟨D,En⟩:=D;have Ew:decide ((((s.l.gt k).la.length+1:Nat):Int)>y.a)=true:=by simp;omega
  refine bA F hB d A T 18 [1,0,1,1] [2,3,3,3,3,2] [] [(89,.slice (some ⟨u,0,none⟩) (List.length (s.l.gt k).la+1) c2),(10,i6 (s.l.gt k).st),(8,ptr q),(0,ptr s.gm),(1,i6 t),(2,i6 k)] (λM=>M) 0 82 [false,false,true] [18] [(decide ((↑(List.length (s.l.gt k).la+1):Int)>y.a),true),((s.l.gt k).st==0,true)] [] [] λH x I m P Q dX=>?_
  refine Zx t152 F d 89 90 (by kernel_rfl) (by kernel_rfl) (by decide) rfl z5 I λa4 Cf R=>?_
  rw[show jY (pc prog 117 82 [false,false,true] [18])=pc prog 117 83 [false,false,true] [18] by kernel_rfl];have S4:St Ok B2 168 _ _ 0 a4 x:=⟨Cf,I.sat,I.sz⟩;replace R:=R.trans m;obtain⟨ad,S⟩:∃ad,ad=(if c2=1 then(⟨u,0,none⟩:Addr)else(⟨u,0,none⟩:Addr).add 1):=⟨_,rfl⟩;rw[<-S]at S4;replace S4:=S4.dD [(90,.slice (some ad) (s.l.gt k).la.length (c2-1)),(10,i6 (s.l.gt k).st),(8,ptr q),(0,ptr s.gm),(1,i6 t),(2,i6 k)] rfl;have jP:x.heap.size=B2:=by omega
  refine bA F hB d R S4 25 [2,0,7,1,15,k,5,101] [2] [] [(14,i6 0),(13,i6 0),(12,.slice (some ad) (List.length (s.l.gt k).la) (c2-1)),(10,i6 (s.l.gt k).st),(8,ptr q),(0,ptr s.gm),(1,i6 t),(2,i6 k)] (λM=>bu 15 (k,5) (.slice (some ad) (List.length (s.l.gt k).la) (c2-1)) (M)) 0 108 [false,false,true] [18] [] [((↑k:Int),s.V.nl)] [(1,(k,s.V.nl))] λa5 w5 S5 nC mz kT jv=>?_
  rw[show pc prog 117 108 [false,false,true] [18]=pc prog 117 104 [false,false,false] [18] by kernel_rfl];refine CA F hB d iK (L:=(s.l.gt k).keep y (decide (b.k≠1))) (by rw[f];simp;omega) (by omega) nC (by omega) hv U ht Ar hk hy.2.1 V (by omega) X rfl (by rw[f];simp) hq W (by rw[S];split<;>simp[addBlock,O]) (λj hj=>?_) S5 λw' ea ec vv gb gc C' y1 y2 y3 y4 y5=>K w' ea ec vv gb gc C' y1 y2 y3 y4 (by omega)
  have Y:j<(s.l.gt k).la.length:=by rw[f]at hj;simpa using hj
  refine⟨j+1,by omega,by rw[S,af (by omega),Addr.add_add,Nat.add_comm],?_⟩;rw[J (j+1) (by omega),f];simp[List.getD]
 .have f:(s.l.gt k).keep y (decide (b.k≠1))=(s.l.gt k).la++[decide (b.k≠1)]:=by unfold Gt.keep;rw[af D]
  have fin:∀H x,H.defers=[]->x.heap.size=B2->w2.heap.size<=x.heap.size->St Ok B2 168 [(14,i6 0),(13,i6 0),(12,.slice (some ⟨u,0,none⟩) ((s.l.gt k).la.length+1) c2),(10,i6 (s.l.gt k).st),(8,ptr q),(0,ptr s.gm),(1,i6 t),(2,i6 k)] (bu 15 (k,5) (.slice (some ⟨u,0,none⟩) ((s.l.gt k).la.length+1) c2) (fR ⟨u,0,none⟩ 1 v2 c2 true::bR q [i6 y.k,i6 y.a,i6 y.b,i6 y.c,i6 y.d,i6 y.e]::(mR s++C))) 0 H x->Ψ (G (bb.at H (pc prog 117 104 [false,false,false] [18])) (cf::cs)) x:=λH x m P Q I=>by
   refine CA F hB d iK (L:=(s.l.gt k).keep y (decide (b.k≠1))) (by rw[f];simp;omega) (by omega) m (by omega) hv U ht Ar hk hy.2.1 V (by omega) X rfl (by rw[f];simp) hq W O (λj hj=>?_) I λw' ea ec vv gb gc C' y1 y2 y3 y4 y5=>K w' ea ec vv gb gc C' y1 y2 y3 y4 (by omega)
   rw[f]at hj ⊢;have Y:j<(s.l.gt k).la.length+1:=by simpa using hj
   exact⟨j,by omega,rfl,J j Y⟩
  by_cases En:(s.l.gt k).st=0
  .have Ew:decide ((((s.l.gt k).la.length+1:Nat):Int)>y.a)=false:=by simp;omega
   refine bA F hB d A T 40 [1,0,1,1,2,0,7,1,15,k,5,101] [2,3,3,3,3,0,2] [] [(14,i6 0),(13,i6 0),(12,.slice (some ⟨u,0,none⟩) (List.length (s.l.gt k).la+1) c2),(10,i6 (s.l.gt k).st),(8,ptr q),(0,ptr s.gm),(1,i6 t),(2,i6 k)] (λM=>bu 15 (k,5) (.slice (some ⟨u,0,none⟩) (List.length (s.l.gt k).la+1) c2) (M)) 0 104 [false,false,false] [18] [(decide ((↑(List.length (s.l.gt k).la+1):Int)>y.a),false),((s.l.gt k).st==0,true)] [((↑k:Int),s.V.nl)] [(1,(k,s.V.nl))] λH x I m P Q dX=>?_
   exact fin H x m (by omega) (by omega) I
  .refine bA F hB d A T 40 [2,0,7,1,15,k,5,101] [0,1,1,1,1,1,2] [] [(14,i6 0),(13,i6 0),(12,.slice (some ⟨u,0,none⟩) (List.length (s.l.gt k).la+1) c2),(10,i6 (s.l.gt k).st),(8,ptr q),(0,ptr s.gm),(1,i6 t),(2,i6 k)] (λM=>bu 15 (k,5) (.slice (some ⟨u,0,none⟩) (List.length (s.l.gt k).la+1) c2) (M)) 0 104 [false,false,false] [18] [((s.l.gt k).st==0,false)] [((↑k:Int),s.V.nl)] [(1,(k,s.V.nl))] λH x I m P Q dX=>?_
   exact fin H x m (by omega) (by omega) I
theorem eY.app{h:ay}{L:List iF}(H:eY C h L)(A:aX):eY (A++C) h L:=by
 rcases H with H|⟨ca,cap,i,e,d⟩
 .exact .inl H
 .exact .inr ⟨ca,cap,A.length+i,e,by rw[bV,af (by omega),EL];exact d⟩
theorem Kt(F:aC prog main (DX Ok) Ψ)(hB:HB B Ok)(d:bb.kind=.normal)(D:bb.fn=117){s:RS}{u:Nat}{a0:Act}(P:RV Ok s)(hle:B<=B1)(iI:w.heap.size=B1)(I:a0.defers=[])(V:s.ta=some tg)(ht:t<s.l.tl)(X:s.l.el<1000000000)(hk:k<s.V.nl)(A:mY B C s.V.nl s.l.gt s.gb)(Y:B<=u)(hg:sW y (s.l.gt k) 1000000000000 0)(hy:(1<=y.a/\y.a<=20)/\(1<=y.c/\y.c<=100)/\(1<=y.e/\y.e<=9))(Q:(s.l.gt k).st=0\/(s.l.gt k).st=2)(hq:(s.l.tk t).q k=(s.l.gt k).pd)(Z:St Ok B1 168 [(44,i6 (bh b)),(10,i6 (s.l.gt k).st),(9,ptr (u+1)),(8,ptr u),(0,ptr s.gm),(1,i6 t),(2,i6 k)] (bR (u+1) [i6 b.k,i6 b.n,.slice ho hl hc]::(bR u [i6 y.k,i6 y.a,i6 y.b,i6 y.c,i6 y.d,i6 y.e]::(mR s++C))) 0 a0 w)(K:∀w' ea ec vv gb gc C',(∀i r,nth C i=some r->∃j,nth C' j=some r)->Sat Ok w' (mR {s with ea:=ea,ec:=ec,vv:=vv,gb:=gb,gc:=gc,l:=s.l.count y t k b}++C')->RV Ok {s with ea:=ea,ec:=ec,vv:=vv,gb:=gb,gc:=gc,l:=s.l.count y t k b}->mY B C' s.V.nl (s.l.count y t k b).gt gb->w.heap.size<=w'.heap.size->Ψ (G (cf.finish (.tuple #[])) cs) w'):
 Ψ (G (bb.at a0 (pc prog 117 28 [false] [18])) (cf::cs)) w:=by
 by_cases H:bh b=3\/bh b=5
 .have Tg:s.l.count y t k b=s.l.aS k {s.l.gt k with pr:=if(s.l.gt k).st=2 then(s.l.gt k).pr-1 else(s.l.gt k).pr}:=by unfold LS.count;rw[af (by rw[hq];simp),ah H]
  rw[Tg]at K;rcases Q with hs|hs
  .rw[af (by omega)]at K
   have e:s.l.aS k {s.l.gt k with pr:=(s.l.gt k).pr}=s.l:=by unfold LS.aS;rw[show({s.l.gt k with pr:=(s.l.gt k).pr}:Gt)=s.l.gt k from rfl,jo]
   rw[e]at K;rcases H with U|U
   .refine bA F hB d I Z 21 [] [2,3,3,0] [] [] (λM=>M) 0 49 [false,true,false] [18] [((s.l.gt k).st==2,false),(bh b==3,true)] [] [] λa1 x o m J q O=>?_
    refine cV F o d D m [] (.tuple #[]) ?_;exact K x _ _ _ _ _ _ (λi r h=>⟨i,h⟩) o.sat.tail.tail P A (by omega)
   .refine bA F hB d I Z 21 [] [0,1,2,0] [] [] (λM=>M) 0 49 [false,true,false] [18] [((s.l.gt k).st==2,false),(bh b==5,true),(bh b==3,false)] [] [] λa1 x o m J q O=>?_
    refine cV F o d D m [] (.tuple #[]) ?_;exact K x _ _ _ _ _ _ (λi r h=>⟨i,h⟩) o.sat.tail.tail P A (by omega)
  .rw[ah hs]at K
   have W5:=hg.pr;have tZ:IntKind.wrap .i64 ((s.l.gt k).pr-1)=(s.l.gt k).pr-1:=aA (by omega) (by omega)
   have fin:∀x:World,w.heap.size<=x.heap.size->Sat Ok x (bu 15 (k,6) (i6 (IntKind.wrap .i64 ((s.l.gt k).pr-1))) (bR (u+1) [i6 b.k,i6 b.n,.slice ho hl hc]::(bR u [i6 y.k,i6 y.a,i6 y.b,i6 y.c,i6 y.d,i6 y.e]::(mR s++C))))->Ψ (G (cf.finish (.tuple #[])) cs) x:=λx q h1=>by
    rw[tZ]at h1
    have h2:=Sat.gw (M:=bR (u+1) [i6 b.k,i6 b.n,.slice ho hl hc]::(bR u [i6 y.k,i6 y.a,i6 y.b,i6 y.c,i6 y.d,i6 y.e]::(mR s++C))) (p:=15) (k:=k) (a:=s.ga) (c:=8) (n:=s.V.nl) (v:=λj=>nN (s.l.gt j) (s.gb j) (s.gc j)) rfl [(6,i6 ((s.l.gt k).pr-1))] (λj=>nN (upd s.l.gt k {s.l.gt k with pr:=(s.l.gt k).pr-1} j) (s.gb j) (s.gc j)) (λj f hf=>by
     simp only[Fa];unfold eH upd
     by_cases e:j=k
     .subst e
      rcases f with _|_|_|_|_|_|_|_|f
      all_goals first|omega|simp[nN]
     .have e':(j==k)=false:=by simpa using e
      simp[e,e']) h1
    have U:=A.E8 (k:=k) (g:={s.l.gt k with pr:=(s.l.gt k).pr-1}) (p:=s.gb k) (A k hk);rw[jo]at U;exact K x _ _ _ _ _ _ (λi r h=>⟨i,h⟩) h2.tail.tail ⟨P.a,P.t,P.w,P.e⟩ U q
   rcases H with U|U
   .refine bA F hB d I Z 34 [2,0,7,1,15,k,6,101,15,k,6,101] [2,3,3,2,2,2] [] [] (λM=>bu 15 (k,6) (i6 (IntKind.wrap .i64 ((s.l.gt k).pr-1))) (M)) 0 62 [false,true,true] [18] [((s.l.gt k).st==2,true),(bh b==3,true)] [((↑k:Int),s.V.nl),((↑k:Int),s.V.nl)] [(2,(k,s.V.nl))] λa1 x o m J q O=>?_
    refine cV F o d D m [] (.tuple #[]) ?_;exact fin x q o.sat
   .refine bA F hB d I Z 34 [2,0,7,1,15,k,6,101,15,k,6,101] [0,1,2,2,2,2] [] [] (λM=>bu 15 (k,6) (i6 (IntKind.wrap .i64 ((s.l.gt k).pr-1))) (M)) 0 62 [false,true,true] [18] [((s.l.gt k).st==2,true),(bh b==5,true),(bh b==3,false)] [((↑k:Int),s.V.nl),((↑k:Int),s.V.nl)] [(2,(k,s.V.nl))] λa1 x o m J q O=>?_
    refine cV F o d D m [] (.tuple #[]) ?_;exact fin x q o.sat
 .refine bA F hB d I Z 25 [3,0,7,1,16,k,5,101] [0,1,0,2] [] [(72,.slice (s.gb k) (List.length (s.l.gt k).la) (s.gc k)),(64,.slice (some ⟨B1,0,none⟩) 0 0),(10,i6 (s.l.gt k).st),(9,ptr (u+1)),(8,ptr u),(0,ptr s.gm),(1,i6 t),(2,i6 k)] (λM=>bR (B1) []::(M)) 1 53 [false,false] [18] [(bh b==5,false),(bh b==3,false)] [((↑k:Int),s.V.nl)] [(1,(k,s.V.nl))] λa1 x o m J q O=>?_
  by_cases h0:(s.l.gt k).la=[]
  .have W:(s.l.gt k).la.length=0:=by rw[h0];rfl
   rw[W]at o;refine ap0 t152 F d 64 72 73 (by kernel_rfl) (by kernel_rfl) (by decide) rfl rfl (λz=>by cases z) (az _) o λa2 S R=>?_
   rw[show jY (pc prog 117 53 [false,false] [18])=pc prog 117 54 [false,false] [18] by kernel_rfl];have T:St Ok (B1+1) 168 _ _ 0 a2 x:=⟨S,(o.sat.tail.ff (r:=fR ⟨B1,0,none⟩ 1 (λ_=>[]) 0 true) rfl rfl),by have:=o.sz;omega⟩;replace T:=T.dD [(73,.slice (some ⟨B1,0,none⟩) 0 0),(10,i6 (s.l.gt k).st),(9,ptr (u+1)),(8,ptr u),(0,ptr s.gm),(1,i6 t),(2,i6 k)] rfl;exact CB F hB d D (B1:=B1+1) (g:=B1) (c:=0) (v:=λ_=>[]) P (by omega) (by omega) (R.trans m) V ht X hk A Y hg hle (by omega) (λj hj=>by omega) (by omega) hy Q hq H (ho:=ho) (hl:=hl) (hc:=hc) (by rw[W];exact T) λw' ea ec vv gb gc C' y1 y2 y3 y4 y5=>K w' ea ec vv gb gc C' y1 y2 y3 y4 (by omega)
  .obtain⟨ad,i,hgb,X9,hi⟩:∃ad i,s.gb k=some ad/\B<=ad.block/\nth C i=some (CH ad (s.l.gt k).la):=(A k hk).resolve_left h0
   have SN:(s.l.gt k).la.length<=20:=by
    rcases hg.st with ⟨_,z⟩|⟨z,_⟩|⟨_,z⟩<;>omega
   rw[hgb]at o;refine apN F hB d 64 72 73 (i+17) (by kernel_rfl) (by kernel_rfl) (by decide) rfl rfl hi (by omega) ⟨by show B<=B1;omega,by show B1<_;omega⟩ h0 (by omega) X9 o λg2 v2 c2 a2 w2 h2 z1 z2 z3 z4 S R=>?_
   rw[show jY (pc prog 117 53 [false,false] [18])=pc prog 117 54 [false,false] [18] by kernel_rfl];have T:St Ok w2.heap.size 168 _ _ 0 a2 w2:=⟨S,h2.sub (M':=fR ⟨g2,0,none⟩ 1 v2 c2 true::bR (u+1) [i6 b.k,i6 b.n,.slice ho hl hc]::(bR u [i6 y.k,i6 y.a,i6 y.b,i6 y.c,i6 y.d,i6 y.e]::(mR s++C))) (.cons_cons _ (.cons _ (.refl _))),rfl⟩;replace T:=T.dD [(73,.slice (some ⟨g2,0,none⟩) (s.l.gt k).la.length c2),(10,i6 (s.l.gt k).st),(9,ptr (u+1)),(8,ptr u),(0,ptr s.gm),(1,i6 t),(2,i6 k)] rfl;have Aq:=h2.lt (i:=0) rfl (j:=(0,0)) ⟨by show 0<c2;have:=List.length_pos_iff.2 h0;omega,aG⟩;exact CB F hB d D (B1:=w2.heap.size) (g:=g2) (c:=c2) (v:=v2) P (by omega) rfl (R.trans m) V ht X hk A Y hg (by omega) Aq z1 z4 hy Q hq H T λw' ea ec vv gb gc C' y1 y2 y3 y4 y5=>K w' ea ec vv gb gc C' y1 y2 y3 y4 (by omega)
theorem Kq(F:aC prog main (DX Ok) Ψ)(hB:HB B Ok){s:RS}(hS:Sat Ok w (mR s++C))(X:RV Ok s)(gp:B<=w.heap.size)(o:s.ta=some tg)(J:t<s.l.tl)(Q:s.l.el<1000000000)(hk:k<s.V.nl)(e:k=0\/k=1\/k=2\/k=3\/k=4\/k=5)(u:mY B C s.V.nl s.l.gt s.gb)(Z:sW y (s.l.gt k) 1000000000000 0)(hy:(1<=y.a/\y.a<=20)/\(1<=y.c/\y.c<=100)/\(1<=y.e/\y.e<=9))(P:(s.l.gt k).st=1->(s.l.tk t).q k≠(s.l.gt k).pd)(T:eY C (.slice ho hl hc) b.ch)(Y:b.ch.length<1000000)(K:∀w' ea ec vv gb gc C',(∀i r,nth C i=some r->∃j,nth C' j=some r)->Sat Ok w' (mR {s with ea:=ea,ec:=ec,vv:=vv,gb:=gb,gc:=gc,l:=s.l.count y t k b}++C')->RV Ok {s with ea:=ea,ec:=ec,vv:=vv,gb:=gb,gc:=gc,l:=s.l.count y t k b}->mY B C' s.V.nl (s.l.count y t k b).gt gb->w.heap.size<=w'.heap.size->Ψ (G (cf.finish (.tuple #[])) cs) w'):
 Ψ (G (Frame.enter prog 117 #[ptr s.gm,i6 t,i6 k,.agg (qR y).toArray,lu b (.slice ho hl hc)] .normal) (cf::cs)) w:=by
 obtain⟨s,rfl⟩:=RS.jI o;replace J:t<s.l.tl:=J;replace hk:k<s.V.nl:=hk;refine dg f117 func117 _ rfl 168 (by kernel_rfl) hS λbb a0 B1 hn d D x S0 iI=>?_
 by_cases q:(s.l.tk t).q k=(s.l.gt k).pd
 .have O:(s.l.gt k).st=0\/(s.l.gt k).st=2:=by
   rcases Z.st with ⟨z,_⟩|⟨z,_⟩|⟨z,_⟩
   .exact .inl z
   .exact absurd q (P z)
   .exact .inr z
  refine KA F aB hB (by omega) d x 27 [(2,(0,4),true),(5,(t,13+k),false),(2,(0,7),true),(15,(k,3),false),(2,(0,7),true),(15,(k,2),false),(0,(0,0),true),(0,(0,1),true),(0,(0,2),true)] [(true,false),(true,true),(true,false),(false,false),(true,false)] [18] [(43,.agg #[i6 b.k,i6 b.n,.slice ho hl hc]),(10,i6 (s.l.gt k).st),(9,ptr (B1+1)),(8,ptr B1),(0,ptr s.gm),(1,i6 t),(2,i6 k)] (λM=>bR (B1+1) [i6 b.k,i6 b.n,.slice ho hl hc]::(bR (B1) [i6 y.k,i6 y.a,i6 y.b,i6 y.c,i6 y.d,i6 y.e]::(M))) 2 27 [false] [18] [((s.l.tk t).q k !=(s.l.gt k).pd,false)] [((k:Int),s.V.nl),((k:Int),s.V.nl),((↑t:Int),s.l.tl)] [(k,s.V.nl),(k,s.V.nl),(t,s.l.tl)] (by rcases e with rfl|rfl|rfl|rfl|rfl|rfl<;>kernel_rfl) (by rcases e with rfl|rfl|rfl|rfl|rfl|rfl<;>kernel_rfl) (nO (by simp[q]) cg) (nO (by dsimp only;omega) (nO (by dsimp only;omega) (nO (by dsimp only;omega) cg))) (nO (by dsimp only;omega) (nO (by dsimp only;omega) (nO (by dsimp only;omega) cg))) S0 λa1 W H f I m U=>?_
  refine bK F d f H 44 125 #[.agg #[i6 b.k,i6 b.n,.slice ho hl hc]] λgJ A=>?_
  refine N2 F hB H.sat (T.app (bR (B1+1) [i6 b.k,i6 b.n,.slice ho hl hc]::(bR B1 [i6 y.k,i6 y.a,i6 y.b,i6 y.c,i6 y.d,i6 y.e]::mR {s with ta:=some tg}))) (by omega) (by omega) λw2 h2 je=>A _ _ _ h2 λa2 B2 V R fV=>?_
  replace V:=V.dD [(44,i6 (bh b)),(10,i6 (s.l.gt k).st),(9,ptr (B1+1)),(8,ptr B1),(0,ptr s.gm),(1,i6 t),(2,i6 k)] rfl;exact Kt F hB d D (s:={s with ta:=some tg}) X (by omega) (by omega) R o J Q hk u (by omega) Z hy O q V λw' ea ec vv gb gc C' y1 y2 y3 y4 y5=>K w' ea ec vv gb gc C' y1 y2 y3 y4 (by omega)
 .have S:s.l.count y t k b=s.l:=by unfold LS.count;rw[ah q]
  replace K:=K;simp only[S]at K;refine KA F aB hB (by omega) d x 11 [(2,(0,4),true),(5,(t,13+k),false),(2,(0,7),true),(15,(k,3),false)] [(true,false),(true,true),(true,false),(true,false)] [18] [] (λM=>bR (B1+1) [i6 b.k,i6 b.n,.slice ho hl hc]::(bR (B1) [i6 y.k,i6 y.a,i6 y.b,i6 y.c,i6 y.d,i6 y.e]::(M))) 2 11 [true] [18] [((s.l.tk t).q k !=(s.l.gt k).pd,true)] [((k:Int),s.V.nl),((↑t:Int),s.l.tl)] [(k,s.V.nl),(t,s.l.tl)] (by rcases e with rfl|rfl|rfl|rfl|rfl|rfl<;>kernel_rfl) (by rcases e with rfl|rfl|rfl|rfl|rfl|rfl<;>kernel_rfl) (nO (by simp[q]) cg) (nO (by dsimp only;omega) (nO (by dsimp only;omega) cg)) (nO (by dsimp only;omega) (nO (by dsimp only;omega) cg)) S0 λa1 W H f I m U=>?_
  refine cV F H d D f [] (.tuple #[]) ?_;exact K W _ _ _ _ _ _ (λi r h=>⟨i,h⟩) H.sat.tail.tail X u m
theorem Ph(F:aC prog main (DX Ok) Ψ)(hB:HB B Ok){s:RS}(hS:Sat Ok w (mR s++C))(gp:B<=w.heap.size)(hk:k<s.V.nl)(m:∃la,s.la=some la)(K:∀D x w' C',fT Ok B Ψ cf cs D x->(∀i r,nth C i=some r->∃j,nth C' j=some r)->w.heap.size<=w'.heap.size->Sat Ok w' (mR s++C')->((s.V.ly k).k=3->Ψ (G (Frame.enter prog 77 #[ptr s.gm,i6 t,i6 k,.agg (qR (s.V.ly k)).toArray] .normal) (D::x)) w')/\((s.V.ly k).k=4->Ψ (G (Frame.enter prog 78 #[ptr s.gm,i6 t,i6 k,.agg (qR (s.V.ly k)).toArray] .normal) (D::x)) w'))(V:(s.V.ly k).k=3\/(s.V.ly k).k=4):
 Ψ (G (Frame.enter prog 58 #[ptr s.gm,i6 t,i6 k] .normal) (cf::cs)) w:=by
 obtain⟨la,m⟩:=m;obtain⟨s,rfl⟩:=RS.yp m;replace hk:k<s.V.nl:=hk;have hc:(((k:Nat):Int)==(s.V.nl:Int))=false:=by simp;omega
 refine dg f58 func58 _ rfl 113 (by kernel_rfl) hS λbb a0 B1 hn d I H S0 iI=>?_
 rcases V with Y|Y
 .refine bA F hB d H S0 54 [0,0,0,1,0,0,0,1,11,k,0,106,0,0,0,6,0,0,0,1,0,0,0,6] [0,2,0,0,2] [] [(56,.agg #[i6 (s.V.ly k).k,i6 (s.V.ly k).a,i6 (s.V.ly k).b,i6 (s.V.ly k).c,i6 (s.V.ly k).d,i6 (s.V.ly k).e]),(55,i6 k),(54,i6 t),(53,ptr s.gm)] (λM=>bR (B1) [i6 (s.V.ly k).k,i6 (s.V.ly k).a,i6 (s.V.ly k).b,i6 (s.V.ly k).c,i6 (s.V.ly k).d,i6 (s.V.ly k).e]::(M)) 1 54 [false,false,false,true] [] [((s.V.ly k).k==3,true),((s.V.ly k).k==2,false),((s.V.ly k).k==1,false),((↑k:Int)==(↑s.V.nl:Int),false)] [((↑k:Int),s.V.nl)] [(6,(k,s.V.nl))] λa1 Q O u T l dS=>?_
  refine bK F d u O 57 77 #[ptr s.gm,i6 t,i6 k,.agg #[i6 (s.V.ly k).k,i6 (s.V.ly k).a,i6 (s.V.ly k).b,i6 (s.V.ly k).c,i6 (s.V.ly k).d,i6 (s.V.ly k).e]] λz e=>?_
  refine(K z _ Q _ (λw2 M X W U=>e _ _ _ X λa2 B2 S2 q S=>?_) (λi r h=>⟨i+1,h⟩) l (Sat.back (A:=mR {s with la:=some la}) O.sat)).1 Y;refine aq F hB d q S2 2 [] [] [] [] (λM=>M) 0 57 [false,false,false,true] [] λa3 P J o R f Z=>?_
  refine cV F J d I o [] (.tuple #[]) ?_;exact U P J.sat f
 .refine bA F hB d H S0 60 [0,0,0,1,0,0,0,1,11,k,0,106,0,0,0,6,0,0,0,1,0,0,0,6] [0,2,0,0,0,2] [] [(63,.agg #[i6 (s.V.ly k).k,i6 (s.V.ly k).a,i6 (s.V.ly k).b,i6 (s.V.ly k).c,i6 (s.V.ly k).d,i6 (s.V.ly k).e]),(62,i6 k),(61,i6 t),(60,ptr s.gm)] (λM=>bR (B1) [i6 (s.V.ly k).k,i6 (s.V.ly k).a,i6 (s.V.ly k).b,i6 (s.V.ly k).c,i6 (s.V.ly k).d,i6 (s.V.ly k).e]::(M)) 1 60 [false,false,false,false,true] [] [((s.V.ly k).k==4,true),((s.V.ly k).k==3,false),((s.V.ly k).k==2,false),((s.V.ly k).k==1,false),((↑k:Int)==(↑s.V.nl:Int),false)] [((↑k:Int),s.V.nl)] [(6,(k,s.V.nl))] λa1 Q O u T l dS=>?_
  refine bK F d u O 64 78 #[ptr s.gm,i6 t,i6 k,.agg #[i6 (s.V.ly k).k,i6 (s.V.ly k).a,i6 (s.V.ly k).b,i6 (s.V.ly k).c,i6 (s.V.ly k).d,i6 (s.V.ly k).e]] λz e=>?_
  refine(K z _ Q _ (λw2 M X W U=>e _ _ _ X λa2 B2 S2 q S=>?_) (λi r h=>⟨i+1,h⟩) l (Sat.back (A:=mR {s with la:=some la}) O.sat)).2 Y;refine aq F hB d q S2 2 [] [] [] [] (λM=>M) 0 63 [false,false,false,false,true] [] λa3 P J o R f Z=>?_
  refine cV F J d I o [] (.tuple #[]) ?_;exact U P J.sat f
theorem Pv(F:aC prog main (DX Ok) Ψ)(hB:HB B Ok){s:RS}(hS:Sat Ok w (mR s++C))(hv:RV Ok s)(gp:B<=w.heap.size)(N8:s.ta=some tg)(ht:t<s.l.tl)(hk:k<s.V.nl)(Vk:k=0\/k=1\/k=2\/k=3\/k=4\/k=5)(Ar:s.l.el<1000000000)(m:∃la,s.la=some la)(Vx:mY B C s.V.nl s.l.gt s.gb)(Ov:(s.V.ly k).k=3\/(s.V.ly k).k=4/\sW (s.V.ly k) (s.l.gt k) 1000000000000 0/\((1<=(s.V.ly k).a/\(s.V.ly k).a<=20)/\(1<=(s.V.ly k).c/\(s.V.ly k).c<=100)/\(1<=(s.V.ly k).e/\(s.V.ly k).e<=9))/\((s.l.gt k).st=1->(s.l.tk t).q k≠(s.l.gt k).pd))(gI:eY C (.slice ho hl hc) b.ch)(J:b.ch.length<1000000)(K:∀D z w' C',fT Ok B Ψ cf cs D z->(∀i r,nth C i=some r->∃j,nth C' j=some r)->w.heap.size<=w'.heap.size->
 ((s.V.ly k).k=3->Sat Ok w' (mR s++C')->Ψ (G (Frame.enter prog 83 #[ptr s.gm,i6 t,i6 k,lu b (.slice ho hl hc)] .normal) (D::z)) w')/\
 ((s.V.ly k).k=4->∀ea ec vv gb gc,Sat Ok w' (mR {s with ea:=ea,ec:=ec,vv:=vv,gb:=gb,gc:=gc,l:=s.l.count (s.V.ly k) t k b}++C')->RV Ok {s with ea:=ea,ec:=ec,vv:=vv,gb:=gb,gc:=gc,l:=s.l.count (s.V.ly k) t k b}->mY B C' s.V.nl (s.l.count (s.V.ly k) t k b).gt gb->Ψ (G (Frame.enter prog 83 #[ptr s.gm,i6 t,i6 k,lu b (.slice ho hl hc)] .normal) (D::z)) w')):
 Ψ (G (Frame.enter prog 101 #[ptr s.gm,i6 t,i6 k,lu b (.slice ho hl hc)] .normal) (cf::cs)) w:=by
 obtain⟨la,m⟩:=m;obtain⟨s,rfl⟩:=RS.yp m;replace hk:k<s.V.nl:=hk;replace ht:t<s.l.tl:=ht;refine dg f101 func101 _ rfl 60 (by kernel_rfl) hS λbb a0 B1 hn d Q O S0 iI=>?_
 rcases Ov with U|⟨U,hg,hy,hq⟩
 .refine bA F hB d O S0 54 [1,0,0,1,12,k,0,106,0,0,0,6,0,0,0,1,1,0,0,3] [2,0,0,0,0] [] [(58,.agg #[i6 b.k,i6 b.n,.slice ho hl hc]),(57,i6 k),(56,i6 t),(55,ptr s.gm)] (λM=>bR (B1+1) [i6 (s.V.ly k).k,i6 (s.V.ly k).a,i6 (s.V.ly k).b,i6 (s.V.ly k).c,i6 (s.V.ly k).d,i6 (s.V.ly k).e]::(bR (B1) [i6 b.k,i6 b.n,.slice ho hl hc]::(M))) 2 54 [false,false,false,false] [] [((s.V.ly k).k==5,false),((s.V.ly k).k==4,false),((s.V.ly k).k==2,false),((s.V.ly k).k==1,false)] [((↑k:Int),s.V.nl)] [(6,(k,s.V.nl))] λa1 X T u iH I dS=>?_
  refine bK F d u T 59 83 #[ptr s.gm,i6 t,i6 k,.agg #[i6 b.k,i6 b.n,.slice ho hl hc]] λR e=>?_
  refine(K R _ X _ (λw2 M h2 uf hz=>e _ _ _ h2 λa2 B2 S2 q Z=>?_) (λi r h=>⟨i+2,h⟩) I).1 U (Sat.back (A:=mR {s with la:=some la}) (Sat.back (A:=bR B1 [i6 b.k,i6 b.n,.slice ho hl hc]::mR {s with la:=some la}) T.sat));refine aq F hB d q S2 1 [] [] [] [] (λM=>M) 0 56 [false,false,false,false] [] λa3 W S o Y H dX=>?_
  refine cV F S d Q o [] (.tuple #[]) ?_;exact hz W S.sat H
 .refine bA F hB d O S0 47 [1,0,0,1,12,k,0,106,0,0,0,6,0,0,0,1,0,0,0,6,1,0,0,3] [2,0,0,2] [] [(47,.agg #[i6 b.k,i6 b.n,.slice ho hl hc]),(46,.agg #[i6 (s.V.ly k).k,i6 (s.V.ly k).a,i6 (s.V.ly k).b,i6 (s.V.ly k).c,i6 (s.V.ly k).d,i6 (s.V.ly k).e]),(45,i6 k),(44,i6 t),(43,ptr s.gm),(7,ptr B1),(0,ptr s.gm),(1,i6 t),(2,i6 k)] (λM=>bR (B1+1) [i6 (s.V.ly k).k,i6 (s.V.ly k).a,i6 (s.V.ly k).b,i6 (s.V.ly k).c,i6 (s.V.ly k).d,i6 (s.V.ly k).e]::(bR (B1) [i6 b.k,i6 b.n,.slice ho hl hc]::(M))) 2 47 [false,false,true] [] [((s.V.ly k).k==4,true),((s.V.ly k).k==2,false),((s.V.ly k).k==1,false)] [((↑k:Int),s.V.nl)] [(6,(k,s.V.nl))] λa1 X T u iH I dS=>?_
  refine bK F d u T 48 117 #[ptr s.gm,i6 t,i6 k,.agg #[i6 (s.V.ly k).k,i6 (s.V.ly k).a,i6 (s.V.ly k).b,i6 (s.V.ly k).c,i6 (s.V.ly k).d,i6 (s.V.ly k).e],.agg #[i6 b.k,i6 b.n,.slice ho hl hc]] λR e=>?_
  have Qr:Sat Ok X (mR {s with la:=some la}++(fR ⟨B1,0,none⟩ 3 (λ_=>[i6 b.k,i6 b.n,.slice ho hl hc]) 1 false::C)):=Sat.back (T.sat.tail.U2 rfl rfl λj hj=>by
   obtain⟨j,f⟩:=j;have U:j<1:=hj.1;obtain rfl:j=0:=by omega
   exact⟨(0,f),hj,by simp only[add_add];simp,rfl⟩)
  have Ii:∀i r,nth C i=some r->∃j,nth (fR ⟨B1,0,none⟩ 3 (λ_=>[i6 b.k,i6 b.n,.slice ho hl hc]) 1 false::C) j=some r:=λi r h=>⟨i+1,h⟩
  refine Kq F hB (s:={s with la:=some la}) Qr hv (by omega) N8 ht Ar hk Vk (Vx.inc Ii) hg hy hq (gI.app [_]) J λw2 ea ec vv gb gc C2 z1 z2 z3 z4 z5=>?_
  obtain⟨j,hj⟩:=z1 0 _ rfl;obtain⟨V,x⟩:∃V,V=mR {s with la:=some la,ea:=ea,ec:=ec,vv:=vv,gb:=gb,gc:=gc,l:=s.l.count (s.V.ly k) t k b}++C2:=⟨_,rfl⟩;have Oy:nth V (j+14)=some (fR ⟨B1,0,none⟩ 3 (λ_=>[i6 b.k,i6 b.n,.slice ho hl hc]) 1 false):=by rw[x];exact hj
  have h2:Sat Ok w2 V:=by rw[x];exact z2
  refine e _ _ _ (h2.dup Oy rfl) λa2 B2 S2 q Z=>?_
  refine aq F hB d q S2 7 [0,0,0,3] [] [] [(58,.agg #[i6 b.k,i6 b.n,.slice ho hl hc]),(57,i6 k),(56,i6 t),(55,ptr s.gm)] (λM=>M) 0 55 [false,false,true] [] λa3 W S o Y H dX=>?_
  refine bK F d o S 59 83 #[ptr s.gm,i6 t,i6 k,.agg #[i6 b.k,i6 b.n,.slice ho hl hc]] λlq P=>?_
  refine(K lq _ W C2 (λw4 M h4 L7 hz=>P _ _ _ h4 λa4 B4 S4 oD jP=>?_) (λi r h=>z1 (i+1) r h) (by omega)).2 U ea ec vv gb gc (by have:=S.sat.tail;rw[x]at this;exact this) z3 z4;refine aq F hB d oD S4 1 [] [] [] [] (λM=>M) 0 57 [false,false,true] [] λa5 w5 S5 nC mz kT jv=>?_
  refine cV F S5 d Q nC [] (.tuple #[]) ?_;exact hz w5 S5.sat kT
def Y9(Ok:dw)(B:Nat)(Ψ:gi)(cf:aE)(cs:cW)(w:aj)(s:RS)(C:aX)(t k:Nat)(q:LS×Option (Nat×Option Bk)):Prop:=
 ∀zq sP w' C' ea ec vv gb gc,fT Ok B Ψ cf cs zq sP->(∀i r,nth C i=some r->∃j,nth C' j=some r)->w.heap.size<=w'.heap.size->Sat Ok w' (mR {s with ea:=ea,ec:=ec,vv:=vv,gb:=gb,gc:=gc,l:=q.1}++C')->RV Ok {s with ea:=ea,ec:=ec,vv:=vv,gb:=gb,gc:=gc,l:=q.1}->mY B C' s.V.nl q.1.gt gb->
  (∀nb i,q.2=some (k,some (eB 3 k 0))->B<=nb->nth C' i=some (gZ ⟨nb,0,none⟩ [⟨3,k,0⟩])->Ψ (G (Frame.enter prog 83 #[ptr s.gm,i6 t,i6 k,lu (eB 3 k 0) (.slice (some ⟨nb,0,none⟩) 1 1)] .normal) (zq::sP)) w')/\
  (q.2=some (k+1,none)->Ψ (G (Frame.enter prog 58 #[ptr s.gm,i6 t,i6 (k+1:Nat)] .normal) (zq::sP)) w')
theorem mY.la(h:mY B C n gt gb)(d:g.la=(gt k).la):mY B C n (upd gt k g) gb:=λj hj=>by
 unfold upd
 by_cases e:j=k
 .simp only[e,if_true,d];rw[e]at hj;exact h k hj
 .simp only[e,if_false];exact h j hj
theorem KR(F:aC prog main (DX Ok) Ψ)(hB:HB B Ok){s:RS}(Q:Sat Ok w (mR s++C))(J:RV Ok s)(A:B<=w.heap.size)(q:s.ta=some tg)(O:t<s.l.tl)(z:s.l.el<1000000000)(hk:k<s.V.nl)(x:k<6)(h:mY B C s.V.nl s.l.gt s.gb)(I:(1<=y.a/\y.a<=1000)/\(1<=y.b/\y.b<=20))(u:0<=s.l.now/\s.l.now<1000000000000)(P:sW y (s.l.gt k) 1000000000000 0)(K:Y9 Ok B Ψ cf cs w s C t k (s.l.jc y t k)):
 Ψ (G (Frame.enter prog 77 #[ptr s.gm,i6 t,i6 k,.agg (qR y).toArray] .normal) (cf::cs)) w:=by
 unfold LS.jc at K;refine KO F hB Q J A q O z hk x I u P (λhc e d w' C' g' cap' vs' nb i o f m l j H D=>?_) (λhc e d w' C' g' cap' vs' o f m l j=>?_)
 .rw[ah hc]at K
  exact(K e d w' C' _ _ _ _ _ o f m l j (h.inc f)).1 nb i rfl H D
 .rw[af hc]at K
  exact(K e d w' C' _ _ _ _ _ o f m l j (mY.la (h.inc f) rfl)).2 rfl
theorem NM(F:aC prog main (DX Ok) Ψ)(hB:HB B Ok){s:RS}(P:Sat Ok w (mR s++C))(I:RV Ok s)(l:B<=w.heap.size)(h:s.ta=some tg)(J:t<s.l.tl)(Ar:s.l.el<1000000)(hk:k<s.V.nl)(H:k=0\/k=1\/k=2\/k=3\/k=4\/k=5)(j:mY B C s.V.nl s.l.gt s.gb)(T:1<=y.e/\y.e<=9)(D:0<=s.l.now/\s.l.now<1000000000000)(Q:sW y (s.l.gt k) 1000000000000 0)(K:Y9 Ok B Ψ cf cs w s C t k (s.l.pass y t k)):
 Ψ (G (Frame.enter prog 78 #[ptr s.gm,i6 t,i6 k,.agg (qR y).toArray] .normal) (cf::cs)) w:=by
 have A:=Q.si;have JN:=Q.pd;have W5:=Q.pr;have U:(s.l.gt k).st=0\/(s.l.gt k).st=1\/(s.l.gt k).st=2:=by rcases Q.st with ⟨z,_⟩|⟨z,_⟩|⟨z,_⟩<;>omega
 unfold LS.pass at K;rcases U with m|m|m
 .have e1:s.l.aM t k=s.l:=by unfold LS.aM;rw[af (by omega)]
  have e2:s.l.cz k=s.l:=by unfold LS.cz;rw[af (by omega)]
  rw[af (λz=>by omega),e1,af (λz=>by omega),e2]at K;exact NN F hB P I l h J (by omega) hk H m λe d w' C' g' cap' vs' x f u q o=>(K e d w' C' _ _ _ _ _ x f u q o (j.inc f)).2 rfl
 .by_cases hc:s.l.now-(s.l.gt k).si<y.d
  .rw[ah ⟨m,hc⟩]at K
   exact FU F hB P I l h J (by omega) hk D A (.inl ⟨m,hc⟩) λe d w' C' g' cap' vs' nb i x f u q o S R=>(K e d w' C' _ _ _ _ _ x f u q o (j.inc f)).1 nb i rfl S R
  .have e1:s.l.aM t k=(s.l.aS k ((s.l.gt k).turn s.l.now 2)).say t k 10 0:=by unfold LS.aM;rw[ah m]
   have W:((s.l.aM t k).gt k)=(s.l.gt k).turn s.l.now 2:=by rw[e1];simp[LS.say,LS.aS,upd]
   have e4:((s.l.aM t k).gt k).st=2:=by rw[W];rfl
   have e5:((s.l.aM t k).gt k).pr=0:=by rw[W];rfl
   have e2:(s.l.aM t k).cz k=(s.l.aM t k).aS k {(s.l.aM t k).gt k with pr:=((s.l.aM t k).gt k).pr+1}:=by unfold LS.cz;rw[ah e4]
   rw[af (λz=>hc z.2),af (λz=>by omega),e2]at K;refine NK F hB P I l h J (by omega) hk H D A m hc (by omega) T λg0 X Y Z O e d w' C' g' cap' vs' x f u q o=>?_
   have e6:Z.l=s.l.aM t k:=by rw[O,e1]
   have V:mY B C' s.V.nl (s.l.aM t k).gt (upd s.gb k none):=by rw[e1];exact(j.inc f).E8 (.inl rfl)
   rw[e6]at q o;subst O;exact(K e d w' C' _ _ _ _ _ x f u q o (V.la rfl)).2 rfl
 .have e1:s.l.aM t k=s.l:=by unfold LS.aM;rw[af (by omega)]
  have e2:s.l.cz k=s.l.aS k {s.l.gt k with pr:=(s.l.gt k).pr+1}:=by unfold LS.cz;rw[ah m]
  rw[af (λz=>by omega),e1]at K
  by_cases hc:(s.l.gt k).pr=y.e
  .rw[ah ⟨m,hc⟩]at K
   exact FU F hB P I l h J (by omega) hk D A (.inr ⟨m,hc⟩) λe d w' C' g' cap' vs' nb i x f u q o S R=>(K e d w' C' _ _ _ _ _ x f u q o (j.inc f)).1 nb i rfl S R
  .rw[af (λz=>hc z.2),e2]at K
   exact NL F hB P I l h J (by omega) hk H m (by omega) hc λe d w' C' g' cap' vs' x f u q o=>(K e d w' C' _ _ _ _ _ x f u q o ((j.inc f).la rfl)).2 rfl
end Go.Proofs.YtobagnjnbmgidaaGreatDoor
