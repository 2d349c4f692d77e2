import Derived.Test.YtobagnjnbmgidaaGreatDoorR10
set_option linter.all false
set_option maxHeartbeats 8000000
set_option maxRecDepth 100000
namespace Go.Proofs.YtobagnjnbmgidaaGreatDoor
open Go.Conc Go.RowKit Tryz
section
variable{main:Bool}{B:Nat}{Ok:Addr→Bool→Prop}{Ψ:Goroutine→World→Prop}
abbrev RS.uo(s:RS)(t:Nat):RS:={s with l:={s.l with us:=upd s.l.us t (s.l.us t+1)}}
abbrev RS.got(s:RS)(i:Nat)(b:Bk)(h:Value):RS:={s with wh:=upd s.wh i h,l:={s.l with wt:=upd s.l.wt i {s.l.wt i with b:=b}}}
theorem I5{g:Nat→Ii}{h:Nat→Value}{i:Nat}{b:Bk}{v:Value}(j f:Nat)(hf:f<7):(sI (upd g i {g i with b:=b} j,upd h i v j)).getD f undef=vf (vf (vf (fun j f=>(sI (g j,h j)).getD f undef) i 4 (i6 b.k)) i 5 (i6 b.n)) i 6 v j f:=by
 unfold vf upd
 by_cases e:j=i
 ·subst e
  rcases f with _|_|_|_|_|_|_|f
  ·simp[sI]
  ·simp[sI]
  ·simp[sI]
  ·simp[sI]
  ·simp[sI]
  ·simp[sI]
  ·simp[sI]
  ·omega
 ·have e':(j==i)=false:=by simpa using e
  simp[e,e']
theorem VC:pc prog 76 79 [true] []=pc prog 76 66 [false] []:=by kernel_rfl
theorem rU(F:aC prog main (DX Ok) Ψ)(hB:HB B Ok){bb:Frame}(af:bb.kind=.normal)(aJ:bb.fn=76){cf:Frame}{cs:List Frame}{s:RS}{C:List ah}{tg:Addr}{t q6 q7 B1:Nat}{n:Int}{x:Mu}{b:Bk}{ho:Option Addr}{hl hc:Nat}{a0:Act}{w:World}(hv:RV Ok s)(hle:B≤B1)(dH:w.heap.size=B1)(aP:a0.defers=[])(jy:s.ta=some tg)(ht:t<s.l.tl)(kO:s.l.el<1000000000)(rJ:s.l.wl<1000000000)(fy:s.l.al<1000000000)(jJ:0≤s.l.now∧s.l.now<1000000000000)(hx:0≤x.t∧x.t≤1000)(eC:pV B C (.slice ho hl hc) b.ch)(Hl:b.ch=[]→ho=none∧hl=0∧hc=0)(hlen:b.ch.length<1000000)(K:∀eN dY w' C',nG Ok B Ψ cf cs eN dY→fL C C'→w.heap.size≤w'.heap.size→x.t=0→∀g' aj bA,Sat Ok w' (mR (s.jN g' aj bA (s.l.say t (-1) 2 n))++C')→RV Ok (s.jN g' aj bA (s.l.say t (-1) 2 n))→Ψ (G (Frame.enter prog 83 #[ptr s.gm,i6 t,i6 s.V.nl,p9 b (.slice ho hl hc)] .normal) (eN::dY)) w')(K2:¬x.t=0→∀C' w' g2 c2 v2 g3 c3 v3 eF dr eP,fL C C'→w.heap.size≤w'.heap.size→Sat Ok w' (mR (RS.got (RS.lP (RS.c8 s g2 c2 v2 t s.V.nl) g3 c3 v3 (s.l.wait t s.V.nl x.t)) s.l.wl ⟨b.k,b.n,⟨0,0,n⟩::b.ch⟩ (.slice eF dr eP))++C')→RV Ok (RS.lP (RS.c8 s g2 c2 v2 t s.V.nl) g3 c3 v3 (s.l.wait t s.V.nl x.t))→pV B C' (.slice eF dr eP) (⟨0,0,n⟩::b.ch)→Ψ (G (cf.finish (.tuple #[])) cs) w')(S0:St Ok B1 124 [(82,.bool (x.t==0)),(7,ptr q7),(6,ptr q6),(5,i6 n),(0,ptr s.gm),(1,i6 t)] (bR q7 [i6 b.k,i6 b.n,.slice ho hl hc]::bR q6 (uq x)::(mR s++C)) 0 a0 w):
 Ψ (G (bb.at a0 (pc prog 76 108 [false,false,false,false] [])) (cf::cs)) w:=by
 obtain⟨s,rfl⟩:=RS.lV jy;replace ht:t<s.l.tl:=ht;replace kO:s.l.el<1000000000:=kO;replace rJ:s.l.wl<1000000000:=rJ;replace fy:s.l.al<1000000000:=fy;replace jJ:0≤s.l.now∧s.l.now<1000000000000:=jJ
 by_cases gT:x.t=0
 ·have VX:(x.t==0)=true:=by simpa using gT
  refine cJ F hB af aP S0 6 [] [2] [] [(85,i6 n),(84,i6 t),(83,ptr s.gm),(7,ptr q7),(0,ptr s.gm),(1,i6 t)] (fun M=>M) 0 114 [false,false,false,false,true] [] [(x.t==0,true)] [] [] fun a1 w1 S1 aG ck cV cW=>?_
  refine fT F af aG S1 86 82 #[ptr s.gm,i6 t,i6 (-1),i6 2,i6 n] fun kP bK=>?_
  refine vi F hB (s:={s with ta:=some tg}) (Sat.back (A:=mR {s with ta:=some tg}) (Sat.back (A:=bR q6 (uq x)::mR {s with ta:=some tg}) S1.au)) hv (by omega) kO rfl ht fun g' aj bA w2 h2 qU kX=>bK _ _ _ h2 fun a2 B2 S2 aW dV=>?_
  refine aD F hB af aW S2 3 [0,0,0,1,14,0,0,3] [] [8] [(94,.agg #[i6 b.k,i6 b.n,.slice ho hl hc]),(93,i6 s.V.nl),(88,i6 t),(87,ptr s.gm)] (fun M=>M) 0 118 [false,false,false,false,true] [8] fun a3 w3 S3 bD eu fS gD=>?_
  refine fT F af bD S3 95 83 #[ptr s.gm,i6 t,i6 s.V.nl,.agg #[i6 b.k,i6 b.n,.slice ho hl hc]] fun vO ij=>?_
  refine(K vO _ w3 _ (fun w4 M h4 L8 hz=>ij _ _ _ h4 fun a4 B4 S4 fC oJ=>?_) fL.dy.cons.cons (by omega)) gT g' aj bA S3.au qU;refine aD F hB af fC S4 1 [] [] [] [] (fun M=>M) 0 120 [false,false,false,false,true] [8] fun a5 w5 S5 dU jT kC rq=>?_
  refine dA F S5 af aJ dU [] (.tuple #[]) ?_;exact hz w5 S5.au kC
 ·have VX:(x.t==0)=false:=by simpa using gT
  refine cJ F hB af aP S0 4 [2,0,0,1,1,0,2,1] [0] [9] [(104,i6 x.t),(102,i6 s.V.nl),(97,i6 t),(96,ptr s.gm),(7,ptr q7),(5,i6 n),(0,ptr s.gm)] (fun M=>M) 0 112 [false,false,false,false,false] [9] [(x.t==0,false)] [] [] fun a1 w1 S1 aG ck cV cW=>?_
  refine fT F af aG S1 105 81 #[ptr s.gm,i6 t,i6 s.V.nl,i6 x.t] fun kP bK=>?_
  refine FB F hB (s:={s with ta:=some tg}) (Sat.back (A:=mR {s with ta:=some tg}) (Sat.back (A:=bR q6 (uq x)::mR {s with ta:=some tg}) S1.au)) hv (by omega) rJ fy rfl ht (by omega) (by show -4611686018427387904≤s.l.now+x.t;omega) (by show s.l.now+x.t<4611686018427387904;omega) fun g2 c2 v2 g3 c3 v3 w2 h2 qU kX=>bK _ _ _ h2 fun a2 B2 S2 aW dV=>?_
  refine aD F hB af aW S2 2 [] [] [] [(8,i6 s.l.wl),(7,ptr q7),(5,i6 n),(0,ptr s.gm)] (fun M=>M) 0 115 [false,false,false,false,false] [9] fun a3 w3 S3 bD eu fS gD=>?_
  have fin:∀eF dr eP a4 w4 B4 C',a4.defers=[]→w4.heap.size=B4→w3.heap.size≤w4.heap.size→fL C C'→pV B C' (.slice eF dr eP) (⟨0,0,n⟩::b.ch)→St Ok B4 124 [(120,.slice eF dr eP),(121,.agg #[i6 b.k,i6 b.n,.slice eF dr eP]),(109,.slice (some ⟨g2,0,none⟩) (s.l.wl+1) c2),(110,i6 s.l.wl)] (mR (RS.lP (RS.c8 {s with ta:=some tg} g2 c2 v2 t s.V.nl) g3 c3 v3 (s.l.wait t s.V.nl x.t))++C') 0 a4 w4→Ψ (G (bb.at a4 (pc prog 76 116 [false,false,false,false,false] [9,16])) (cf::cs)) w4:=by
   intro eF dr eP a4 w4 B4 C' fC oJ Ay hi lR S4;refine cJ F hB af fC S4 4 [5,Int.toNat (↑s.l.wl:Int),4,103] [2] [] [] (fun M=>gH 5 (Int.toNat (↑s.l.wl:Int),6) (.slice eF dr eP) (gH 5 (Int.toNat (↑s.l.wl:Int),5) (i6 b.n) (gH 5 (Int.toNat (↑s.l.wl:Int),4) (i6 b.k) (M)))) 0 120 [false,false,false,false,false] [9,16] [] [((↑s.l.wl:Int),s.l.wl+1)] [(3,(Int.toNat (↑s.l.wl:Int),s.l.wl+1))] fun a5 w5 S5 dU jT kC rq=>?_
   refine dA F S5 af aJ dU [] (.tuple #[]) ?_;exact K2 gT C' w5 g2 c2 v2 g3 c3 v3 eF dr eP hi (by omega) (S5.au.re 5 rfl rfl (fun j=>sI (upd (s.l.wait t s.V.nl x.t).wt s.l.wl {(s.l.wait t s.V.nl x.t).wt s.l.wl with b:=⟨b.k,b.n,⟨0,0,n⟩::b.ch⟩} j,upd (upd s.wh s.l.wl (.slice none 0 0)) s.l.wl (.slice eF dr eP) j)) fun j _ f hf=>I5 j f hf) qU lR
  cases zJ:b.ch with
  |nil=>
   obtain⟨e1,e2,e3⟩:=Hl zJ;subst e1;subst e2;subst e3;refine X8 [{bR s.gm (mC (RS.lP (RS.c8 {s with ta:=some tg} g2 c2 v2 t s.V.nl) g3 c3 v3 (s.l.wait t s.V.nl x.t))) with wr:=false},{bR q7 [i6 b.k,i6 b.n,.slice none 0 0] with wr:=false}] [(3,[(0,(0,5),true)]),(6,[(1,(0,0),true)]),(8,[(1,(0,1),true)])] F hB (by omega) af 14 [(0,(0,5),true),(14,(0,0),true),(14,(0,1),true),(14,(0,2),true)] [] [(109,.slice (some ⟨g2,0,none⟩) (s.l.wl+1) c2),(110,i6 s.l.wl)] [(112,i6 b.k),(114,i6 b.n)] (bR B2 (pX ⟨0,0,n⟩)::·) 1 [] [] [] 117 119 120 121 (fun v=>.agg #[i6 b.k,i6 b.n,v]) (base:=some ⟨B2,0,none⟩) (xa:=none) (sl:=1) (sc:=1) (cx:=0) (by kernel_rfl) (by kernel_rfl) (by kernel_rfl) (fun oa n c=>by kernel_rfl) (by kernel_rfl) (by kernel_rfl) (by kernel_rfl) (fun i r h=>by match i,h with|0,h=>cases h;exact⟨rfl,1,_,rfl,rfl⟩|1,h=>cases h;exact⟨rfl,15,_,rfl,rfl⟩) (by decide) (by simp) (by kernel_rfl) gl gl gl S3 (fun z=>by cases z) (Nat.le_refl _) fun a4 w4 h4 oJ yf fC=>?_
   refine fin (some ⟨B2,0,none⟩) 1 1 a4 w4 _ (iL ⟨B2,0,none⟩ [⟨0,0,n⟩]::bR q6 (uq x)::bR q7 [i6 b.k,i6 b.n,.slice none 0 0]::C) (fC.trans bD) rfl (by omega) (fL.dy.cons.cons.cons) (by rw[zJ];exact .inr ⟨_,_,0,rfl,rfl,by show B≤B2;omega,Nat.le_refl _⟩) ⟨yf,Sat.back (A:=mR (RS.lP (RS.c8 {s with ta:=some tg} g2 c2 v2 t s.V.nl) g3 c3 v3 (s.l.wait t s.V.nl x.t))) (Sat.U9 h4),rfl⟩
  |cons z zs=>
   obtain⟨ca,cap,i,e1,e2,e3,e4⟩:∃ca cap i,Value.slice ho hl hc=.slice (some ca) b.ch.length cap∧nth C i=some (iL ca b.ch)∧B≤ca.block∧b.ch.length≤cap:=by
    rcases eC with ⟨_,y⟩|y
    ·rw[zJ] at y;cases y
    ·exact y
   cases e1
   refine bkL [{bR s.gm (mC (RS.lP (RS.c8 {s with ta:=some tg} g2 c2 v2 t s.V.nl) g3 c3 v3 (s.l.wait t s.V.nl x.t))) with wr:=false},{bR q7 [i6 b.k,i6 b.n,.slice (some ca) b.ch.length hc] with wr:=false}] [(3,[(0,(0,5),true)]),(6,[(1,(0,0),true)]),(8,[(1,(0,1),true)])] F hB (by omega) af 14 [(0,(0,5),true),(14,(0,0),true),(14,(0,1),true),(14,(0,2),true)] [] [(109,.slice (some ⟨g2,0,none⟩) (s.l.wl+1) c2),(110,i6 s.l.wl)] [(112,i6 b.k),(114,i6 b.n)] (bR B2 (pX ⟨0,0,n⟩)::·) 1 [] [] [] 117 119 120 121 (fun v=>.agg #[i6 b.k,i6 b.n,v]) (1+(13+(2+i))) (base:=some ⟨B2,0,none⟩) (ad:=ca) (cx:=hc) (L0:=[⟨0,0,n⟩]) (L:=b.ch) (by kernel_rfl) (by kernel_rfl) (by kernel_rfl) (fun oa n c=>by kernel_rfl) (by kernel_rfl) (by kernel_rfl) (by kernel_rfl) (fun i r h=>by match i,h with|0,h=>cases h;exact⟨rfl,1,_,rfl,rfl⟩|1,h=>cases h;exact⟨rfl,15,_,rfl,rfl⟩) (by decide) (by simp) (by kernel_rfl) gl gl gl S3 ?_ (.inr ⟨B2,⟨0,0,n⟩,0,rfl,rfl,rfl⟩) (fun a z=>by cases z;show B≤B2;omega) (by rw[zJ];simp) (by simp only[List.length_cons,List.length_nil];omega) e3 fun g4 c4 a4 w4 h4 hg4 oJ hc4 yf fC=>?_
   ·rw[show 1+(13+(2+i))=13+(2+i)+1 by omega]
    show nth (mR _++_) (13+(2+i))=_
    rw[cz,if_neg (by show¬13+(2+i)<13;omega),show 13+(2+i)-(mR (RS.lP (RS.c8 {s with ta:=some tg} g2 c2 v2 t s.V.nl) g3 c3 v3 (s.l.wait t s.V.nl x.t))).length=i+1+1 by show 13+(2+i)-13=_;omega];exact e2
   exact fin (some ⟨g4,0,none⟩) (b.ch.length+1) c4 a4 w4 _ (bR B2 (pX ⟨0,0,n⟩)::iL ⟨g4,0,none⟩ (⟨0,0,n⟩::b.ch)::bR q6 (uq x)::bR q7 [i6 b.k,i6 b.n,.slice (some ca) b.ch.length hc]::C) (fC.trans bD) rfl (by omega) (fL.dy.cons.cons.cons.cons) (.inr ⟨_,_,1,rfl,rfl,by show B≤g4;omega,hc4⟩) ⟨yf,Sat.back (A:=mR (RS.lP (RS.c8 {s with ta:=some tg} g2 c2 v2 t s.V.nl) g3 c3 v3 (s.l.wait t s.V.nl x.t))) (Sat.back (A:=bR B2 (pX ⟨0,0,n⟩)::mR (RS.lP (RS.c8 {s with ta:=some tg} g2 c2 v2 t s.V.nl) g3 c3 v3 (s.l.wait t s.V.nl x.t))) h4),rfl⟩
theorem BA(F:aC prog main (DX Ok) Ψ)(hB:HB B Ok){bb:Frame}(af:bb.kind=.normal)(aJ:bb.fn=76){cf:Frame}{cs:List Frame}{s:RS}{C:List ah}{tg:Addr}{t q6 B1:Nat}{n:Int}{x:Mu}{a0:Act}{w:World}(hv:RV Ok s)(hle:B≤B1)(dH:w.heap.size=B1)(aP:a0.defers=[])(jy:s.ta=some tg)(ht:t<s.l.tl)(kO:s.l.el<1000000000)(rJ:s.l.wl<1000000000)(fy:s.l.al<1000000000)(jJ:0≤s.l.now∧s.l.now<1000000000000)(hx:0≤x.t∧x.t≤1000)(K:∀eN dY w' C',nG Ok B Ψ cf cs eN dY→fL C C'→w.heap.size≤w'.heap.size→x.t=0→∀g' aj bA ho hl hc,Sat Ok w' (mR (s.jN g' aj bA (s.l.say t (-1) 2 n))++C')→RV Ok (s.jN g' aj bA (s.l.say t (-1) 2 n))→pV B C' (.slice ho hl hc) (dg x).ch→Ψ (G (Frame.enter prog 83 #[ptr s.gm,i6 t,i6 s.V.nl,p9 (dg x) (.slice ho hl hc)] .normal) (eN::dY)) w')(K2:¬x.t=0→∀C' w' g2 c2 v2 g3 c3 v3 eF dr eP,fL C C'→w.heap.size≤w'.heap.size→Sat Ok w' (mR (RS.got (RS.lP (RS.c8 s g2 c2 v2 t s.V.nl) g3 c3 v3 (s.l.wait t s.V.nl x.t)) s.l.wl ⟨(dg x).k,(dg x).n,⟨0,0,n⟩::(dg x).ch⟩ (.slice eF dr eP))++C')→RV Ok (RS.lP (RS.c8 s g2 c2 v2 t s.V.nl) g3 c3 v3 (s.l.wait t s.V.nl x.t))→pV B C' (.slice eF dr eP) (⟨0,0,n⟩::(dg x).ch)→Ψ (G (cf.finish (.tuple #[])) cs) w')(S0:St Ok B1 124 [(6,ptr q6),(5,i6 n),(0,ptr s.gm),(1,i6 t)] (bR q6 (uq x)::(mR s++C)) 0 a0 w):
 Ψ (G (bb.at a0 (pc prog 76 66 [false] [])) (cf::cs)) w:=by
 by_cases h2:x.k=2
 ·have hb:dg x=⟨2,0,[⟨1,-1,x.n⟩]⟩:=by unfold dg mE;rw[if_pos h2]
  rw[hb] at K K2;refine cJ F hB af aP S0 50 [0,0,1,1,0,0,0,3,1,0,0,2,1,0,0,3,1,0,0,3,2,0,0,3,3,0,2,1] [2] [] [(82,.bool (x.t==0)),(7,ptr B1),(6,ptr q6),(5,i6 n),(0,ptr s.gm),(1,i6 t)] (fun M=>bR (B1+2) [i6 1,i6 (-1),i6 x.n]::(bR (B1+1) [i6 2,i6 0,.slice (some ⟨B1+2,0,none⟩) 1 1]::(bR (B1) [i6 2,i6 0,.slice (some ⟨B1+2,0,none⟩) 1 1]::(M)))) 3 101 [false,true] [] [(x.k==2,true)] [] [] fun a1 w1 S1 aG ck cV cW=>?_
  rw[show pc prog 76 101 [false,true] []=pc prog 76 108 [false,false,false,false] [] by kernel_rfl]
  exact rU F hB af aJ (b:=⟨2,0,[⟨1,-1,x.n⟩]⟩) (C:=bR (B1+1) [i6 2,i6 0,.slice (some ⟨B1+2,0,none⟩) 1 1]::iL ⟨B1+2,0,none⟩ [⟨1,-1,x.n⟩]::C) hv (by omega) rfl aG jy ht kO rJ fy jJ hx (.inr ⟨_,_,1,rfl,rfl,by show B≤B1+2;omega,Nat.le_refl _⟩) (fun z=>by cases z) (by simp)
   (fun eN dY w' C' hl hi hz gT g' aj bA h1 h2=>K eN dY w' C' hl ((fL.dy.cons.cons).trans hi) (by omega) gT g' aj bA _ _ _ h1 h2 (pV.inc (.inr ⟨_,_,1,rfl,rfl,by show B≤B1+2;omega,Nat.le_refl _⟩) hi))
   (fun gT C' w' g2 c2 v2 g3 c3 v3 eF dr eP hi hz=>K2 gT C' w' g2 c2 v2 g3 c3 v3 eF dr eP ((fL.dy.cons.cons).trans hi) (by omega))
   ⟨S1.env,Sat.back (A:=bR B1 [i6 2,i6 0,.slice (some ⟨B1+2,0,none⟩) 1 1]::bR q6 (uq x)::mR s) (Sat.back (A:=bR (B1+1) [i6 2,i6 0,.slice (some ⟨B1+2,0,none⟩) 1 1]::bR B1 [i6 2,i6 0,.slice (some ⟨B1+2,0,none⟩) 1 1]::bR q6 (uq x)::mR s) (Sat.U9 S1.au)),rfl⟩
 ·have qA:(x.k==2)=false:=by simpa using h2
  by_cases h3:x.k=3
  ·have hb:dg x=⟨2,0,[⟨2,-1,x.n⟩]⟩:=by unfold dg mE;rw[if_neg h2,if_pos h3]
   rw[hb] at K K2;refine cJ F hB af aP S0 56 [0,0,1,1,0,0,0,3,1,0,0,2,1,0,0,3,1,0,0,3,2,0,0,3,3,0,2,1] [0,2] [] [(82,.bool (x.t==0)),(7,ptr B1),(6,ptr q6),(5,i6 n),(0,ptr s.gm),(1,i6 t)] (fun M=>bR (B1+2) [i6 2,i6 (-1),i6 x.n]::(bR (B1+1) [i6 2,i6 0,.slice (some ⟨B1+2,0,none⟩) 1 1]::(bR (B1) [i6 2,i6 0,.slice (some ⟨B1+2,0,none⟩) 1 1]::(M)))) 3 107 [false,false,true] [] [(x.k==3,true),(x.k==2,false)] [] [] fun a1 w1 S1 aG ck cV cW=>?_
   rw[show pc prog 76 107 [false,false,true] []=pc prog 76 108 [false,false,false,false] [] by kernel_rfl]
   exact rU F hB af aJ (b:=⟨2,0,[⟨2,-1,x.n⟩]⟩) (C:=bR (B1+1) [i6 2,i6 0,.slice (some ⟨B1+2,0,none⟩) 1 1]::iL ⟨B1+2,0,none⟩ [⟨2,-1,x.n⟩]::C) hv (by omega) rfl aG jy ht kO rJ fy jJ hx (.inr ⟨_,_,1,rfl,rfl,by show B≤B1+2;omega,Nat.le_refl _⟩) (fun z=>by cases z) (by simp)
    (fun eN dY w' C' hl hi hz gT g' aj bA h1 h2=>K eN dY w' C' hl ((fL.dy.cons.cons).trans hi) (by omega) gT g' aj bA _ _ _ h1 h2 (pV.inc (.inr ⟨_,_,1,rfl,rfl,by show B≤B1+2;omega,Nat.le_refl _⟩) hi))
    (fun gT C' w' g2 c2 v2 g3 c3 v3 eF dr eP hi hz=>K2 gT C' w' g2 c2 v2 g3 c3 v3 eF dr eP ((fL.dy.cons.cons).trans hi) (by omega))
    ⟨S1.env,Sat.back (A:=bR B1 [i6 2,i6 0,.slice (some ⟨B1+2,0,none⟩) 1 1]::bR q6 (uq x)::mR s) (Sat.back (A:=bR (B1+1) [i6 2,i6 0,.slice (some ⟨B1+2,0,none⟩) 1 1]::bR B1 [i6 2,i6 0,.slice (some ⟨B1+2,0,none⟩) 1 1]::bR q6 (uq x)::mR s) (Sat.U9 S1.au)),rfl⟩
  ·have U1:(x.k==3)=false:=by simpa using h3
   by_cases h4:x.k=4
   ·have hb:dg x=⟨3,x.n,[]⟩:=by unfold dg;rw[if_neg h2,if_neg h3,if_pos h4]
    rw[hb] at K K2;refine cJ F hB af aP S0 47 [0,0,1,1,0,0,0,3,1,0,0,2,0,0,0,3,1,0,2,1] [0,0,2] [] [(82,.bool (x.t==0)),(7,ptr B1),(6,ptr q6),(5,i6 n),(0,ptr s.gm),(1,i6 t)] (fun M=>bR (B1) [i6 3,i6 x.n,.slice none 0 0]::(M)) 1 113 [false,false,false,true] [] [(x.k==4,true),(x.k==3,false),(x.k==2,false)] [] [] fun a1 w1 S1 aG ck cV cW=>?_
    rw[show pc prog 76 113 [false,false,false,true] []=pc prog 76 108 [false,false,false,false] [] by kernel_rfl]
    exact rU F hB af aJ (b:=⟨3,x.n,[]⟩) (C:=C) hv (by omega) rfl aG jy ht kO rJ fy jJ hx (.inl ⟨rfl,rfl⟩) (fun z=>⟨rfl,rfl,rfl⟩) (by simp)
     (fun eN dY w' C' hl hi hz gT g' aj bA h1 h2=>K eN dY w' C' hl hi (by omega) gT g' aj bA _ _ _ h1 h2 (.inl ⟨rfl,rfl⟩))
     (fun gT C' w' g2 c2 v2 g3 c3 v3 eF dr eP hi hz=>K2 gT C' w' g2 c2 v2 g3 c3 v3 eF dr eP hi (by omega))
     ⟨S1.env,S1.au,rfl⟩
   ·have h4':(x.k==4)=false:=by simpa using h4
    have hb:dg x=⟨1,x.n,[]⟩:=by unfold dg;rw[if_neg h2,if_neg h3,if_neg h4]
    rw[hb] at K K2;refine cJ F hB af aP S0 42 [0,0,1,1,0,0,0,3,1,0,0,1,1,0,2,1] [0,0,0] [] [(82,.bool (x.t==0)),(7,ptr B1),(6,ptr q6),(5,i6 n),(0,ptr s.gm),(1,i6 t)] (fun M=>bR (B1) [i6 1,i6 x.n,.slice none 0 0]::(M)) 1 108 [false,false,false,false] [] [(x.k==4,false),(x.k==3,false),(x.k==2,false)] [] [] fun a1 w1 S1 aG ck cV cW=>?_
    exact rU F hB af aJ (b:=⟨1,x.n,[]⟩) (C:=C) hv (by omega) rfl aG jy ht kO rJ fy jJ hx (.inl ⟨rfl,rfl⟩) (fun z=>⟨rfl,rfl,rfl⟩) (by simp)
     (fun eN dY w' C' hl hi hz gT g' aj bA h1 h2=>K eN dY w' C' hl hi (by omega) gT g' aj bA _ _ _ h1 h2 (.inl ⟨rfl,rfl⟩))
     (fun gT C' w' g2 c2 v2 g3 c3 v3 eF dr eP hi hz=>K2 gT C' w' g2 c2 v2 g3 c3 v3 eF dr eP hi (by omega))
     ⟨S1.env,S1.au,rfl⟩
theorem Jq(F:aC prog main (DX Ok) Ψ)(hB:HB B Ok){cf:Frame}{cs:List Frame}{w:World}{s:RS}{C:List ah}{tg ca:Addr}{t:Nat}(hS:Sat Ok w (mR s++C))(hv:RV Ok s)(ey:B≤w.heap.size)(jy:s.ta=some tg)(uW:s.ca=some ca)(ht:t<s.l.tl)(Iu:(s.l.tk t).c=t)(V5:t<s.V.nc)(Eb:s.V.nl≤6)(kO:s.l.el<100000000)(rJ:s.l.wl<1000000000)(fy:s.l.al<1000000000)(EV:0≤s.l.us t∧s.l.us t<1000000000)(jJ:0≤s.l.now∧s.l.now<1000000000000)(htr:0<s.V.nt t→∃ta,s.eH t=some ta∧Has C (fR ta 3 (fun j=>uq (s.V.tr t j)) (s.V.nt t) false))(hx:0≤(aY s.V t (s.l.us t).toNat).t∧(aY s.V t (s.l.us t).toNat).t≤1000)(K:∀eN dY w' C',nG Ok B Ψ cf cs eN dY→fL C C'→w.heap.size≤w'.heap.size→(aY s.V t (s.l.us t).toNat).t=0→∀g' aj bA g1 c1 v1 ho hl hc,Sat Ok w' (mR (RS.jN (RS.jN (s.uo t) g1 c1 v1 ((s.uo t).l.say t (-1) 1 (s.l.us t))) g' aj bA (((s.uo t).l.say t (-1) 1 (s.l.us t)).say t (-1) 2 (s.l.us t)))++C')→RV Ok (RS.jN (RS.jN (s.uo t) g1 c1 v1 ((s.uo t).l.say t (-1) 1 (s.l.us t))) g' aj bA (((s.uo t).l.say t (-1) 1 (s.l.us t)).say t (-1) 2 (s.l.us t)))→pV B C' (.slice ho hl hc) (dg (aY s.V t (s.l.us t).toNat)).ch→Ψ (G (Frame.enter prog 83 #[ptr s.gm,i6 t,i6 s.V.nl,p9 (dg (aY s.V t (s.l.us t).toNat)) (.slice ho hl hc)] .normal) (eN::dY)) w')(K2:¬(aY s.V t (s.l.us t).toNat).t=0→∀C' w' g1 c1 v1 g2 c2 v2 g3 c3 v3 eF dr eP,fL C C'→w.heap.size≤w'.heap.size→Sat Ok w' (mR (RS.got (RS.lP (RS.c8 (RS.jN (s.uo t) g1 c1 v1 ((s.uo t).l.say t (-1) 1 (s.l.us t))) g2 c2 v2 t s.V.nl) g3 c3 v3 (((s.uo t).l.say t (-1) 1 (s.l.us t)).wait t s.V.nl (aY s.V t (s.l.us t).toNat).t)) s.l.wl ⟨(dg (aY s.V t (s.l.us t).toNat)).k,(dg (aY s.V t (s.l.us t).toNat)).n,⟨0,0,s.l.us t⟩::(dg (aY s.V t (s.l.us t).toNat)).ch⟩ (.slice eF dr eP))++C')→RV Ok (RS.lP (RS.c8 (RS.jN (s.uo t) g1 c1 v1 ((s.uo t).l.say t (-1) 1 (s.l.us t))) g2 c2 v2 t s.V.nl) g3 c3 v3 (((s.uo t).l.say t (-1) 1 (s.l.us t)).wait t s.V.nl (aY s.V t (s.l.us t).toNat).t))→pV B C' (.slice eF dr eP) (⟨0,0,s.l.us t⟩::(dg (aY s.V t (s.l.us t).toNat)).ch)→Ψ (G (cf.finish (.tuple #[])) cs) w'):
 Ψ (G (Frame.enter prog 76 #[ptr s.gm,i6 t] .normal) (cf::cs)) w:=by
 obtain⟨s,rfl⟩:=RS.lV jy;obtain⟨s,rfl⟩:=RS.Mq (s:=s) uW;replace ht:t<s.l.tl:=ht;replace Iu:(s.l.tk t).c=t:=Iu;replace V5:t<s.V.nc:=V5;replace kO:s.l.el<100000000:=kO;replace rJ:s.l.wl<1000000000:=rJ;replace fy:s.l.al<1000000000:=fy;replace EV:0≤s.l.us t∧s.l.us t<1000000000:=EV;replace jJ:0≤s.l.now∧s.l.now<1000000000000:=jJ;refine iT f76 func76 _ rfl 124 (by kernel_rfl) hS fun bb a0 B1 hn af aJ aP S0 dH=>?_
 refine cJ F hB af aP S0 10 [0,0,4,1,3,t,0,101] [2] [] [(16,i6 (s.l.tk t).c),(0,ptr s.gm),(1,i6 t)] (fun M=>M) 0 10 [] [] [] [((↑t:Int),s.l.tl)] [(1,(t,s.l.tl))] fun a1 w1 S1 aG ck cV cW=>?_
 rw[Iu] at S1;refine cJ F hB af aG S1 31 [0,0,6,1,7,t,0,101,0,0,6,1,7,t,0,101,7,t,0,101] [2,2,2] [] [(35,i6 (s.l.us t)),(34,i6 t),(33,ptr s.gm),(5,i6 (s.l.us t)),(4,i6 t),(0,ptr s.gm),(1,i6 t)] (fun M=>gH 7 (t,0) (i6 (IntKind.wrap .i64 (s.l.us t+1))) (M)) 0 41 [] [] [] [((↑t:Int),s.V.nc),((↑t:Int),s.V.nc),((↑t:Int),s.V.nc)] [(3,(t,s.V.nc))] fun a2 w2 S2 aW dV kX A8=>?_
 have hw:IntKind.wrap .i64 (s.l.us t+1)=s.l.us t+1:=bI (by omega) (by omega);rw[hw] at S2;replace S2:St Ok B1 124 _ (mR (RS.uo {s with ca:=some ca,ta:=some tg} t)++C) 0 a2 w2:=⟨S2.env,S2.au.re 7 rfl rfl _ fun j _ f _=>iz (C:=fun x=>[i6 x]) rfl (show 0<1 by omega) j f,S2.sz⟩;refine fT F af aW S2 36 82 #[ptr s.gm,i6 t,i6 (-1),i6 1,i6 (s.l.us t)] fun zN AZ=>?_
 refine vi F hB (s:=RS.uo {s with ca:=some ca,ta:=some tg} t) S2.au ⟨hv.a,hv.t,hv.w,hv.e⟩ (by omega) (by show s.l.el<1000000000;omega) rfl ht fun g' aj bA w3 h3 Rt fS=>AZ _ _ _ h3 fun a3 B3 S3 bD eu=>?_
 by_cases hn:s.l.us t<s.V.nt t
 ·have EY:decide (s.l.us t<(s.V.nt t:Int))=true:=by simpa using hn
  refine cJ F hB af bD S3 33 [0,0,0,3,1,0,1,1,13,t,1,101,1,0,1,1,13,t,1,101] [2,2,2] [] [(57,i6 (s.l.us t)),(56,.slice (s.eH t) (s.V.nt t) (s.fF t)),(6,ptr B3),(5,i6 (s.l.us t)),(0,ptr s.gm),(1,i6 t)] (fun M=>bR (B3) [i6 1,i6 0,i6 0]::(M)) 1 75 [true] [] [(decide (s.l.us t<(↑(s.V.nt t):Int)),true)] [((↑t:Int),s.V.nc),((↑t:Int),s.V.nc)] [(2,(t,s.V.nc))] fun a4 w4 S4 fC oJ Ay U4=>?_
  obtain⟨ta,V7,XA⟩:=htr (by show 0<s.V.nt t;omega);rw[show s.eH t=some ta from V7] at S4;replace S4:=S4.get (((XA.app (mR (RS.jN (RS.uo {s with ca:=some ca,ta:=some tg} t) g' aj bA ((RS.uo {s with ca:=some ca,ta:=some tg} t).l.say t (-1) 1 (s.l.us t))))).cons (x:=bR B3 [i6 1,i6 0,i6 0])));refine cJ F hB af fC S4 4 [0,Int.toNat (s.l.us t),0,103,1,0,0,3] [2] [] [(6,ptr B3),(5,i6 (s.l.us t)),(0,ptr s.gm),(1,i6 t)] (fun M=>gH 1 (0,2) (i6 (s.V.tr t (Int.toNat (s.l.us t))).t) (gH 1 (0,1) (i6 (s.V.tr t (Int.toNat (s.l.us t))).n) (gH 1 (0,0) (i6 (s.V.tr t (Int.toNat (s.l.us t))).k) (M)))) 1 79 [true] [] [] [(s.l.us t,s.V.nt t)] [(3,(Int.toNat (s.l.us t),s.V.nt t))] fun a5 w5 S5 dU jT kC rq=>?_
  rw[VC];have Cb:aY s.V t (s.l.us t).toNat=s.V.tr t (s.l.us t).toNat:=if_pos (by omega);replace hx:0≤(aY s.V t (s.l.us t).toNat).t∧(aY s.V t (s.l.us t).toNat).t≤1000:=hx;rw[Cb] at hx;replace K:=K
  exact BA F hB af aJ (s:=RS.jN (RS.uo {s with ca:=some ca,ta:=some tg} t) g' aj bA ((RS.uo {s with ca:=some ca,ta:=some tg} t).l.say t (-1) 1 (s.l.us t))) (C:=fR ta 3 (fun j=>uq (s.V.tr t j)) (s.V.nt t) false::C) (x:=s.V.tr t (s.l.us t).toNat) Rt (by omega) rfl dU rfl ht (by show s.l.el+1<1000000000;omega) rJ fy jJ hx
   (fun eN dY w' C' hl hi hz gT g2 c2 v2 ho dr hc h1 h2 h3=>(Cb▸K) eN dY w' C' hl (fL.dy.cons.trans hi) (by omega) gT g2 c2 v2 g' aj bA ho dr hc h1 h2 h3)
   (fun gT C' w' g2 c2 v2 g3 c3 v3 eF dr eP hi hz=>(Cb▸K2) gT C' w' g' aj bA g2 c2 v2 g3 c3 v3 eF dr eP (fL.dy.cons.trans hi) (by omega))
   ⟨S5.env,Sat.back (A:=bR B3 (uq (s.V.tr t (s.l.us t).toNat))::mR (RS.jN (RS.uo {s with ca:=some ca,ta:=some tg} t) g' aj bA ((RS.uo {s with ca:=some ca,ta:=some tg} t).l.say t (-1) 1 (s.l.us t)))) S5.au,rfl⟩
 ·have EY:decide (s.l.us t<(s.V.nt t:Int))=false:=by simpa using hn
  have Cb:aY s.V t (s.l.us t).toNat=⟨1,0,0⟩:=if_neg (by omega);refine cJ F hB af bD S3 24 [0,0,0,3,1,0,1,1,13,t,1,101] [2,0] [] [(6,ptr B3),(5,i6 (s.l.us t)),(0,ptr s.gm),(1,i6 t)] (fun M=>bR (B3) [i6 1,i6 0,i6 0]::(M)) 1 66 [false] [] [(decide (s.l.us t<(↑(s.V.nt t):Int)),false)] [((↑t:Int),s.V.nc)] [(1,(t,s.V.nc))] fun a4 w4 S4 fC oJ Ay U4=>?_
  exact BA F hB af aJ (s:=RS.jN (RS.uo {s with ca:=some ca,ta:=some tg} t) g' aj bA ((RS.uo {s with ca:=some ca,ta:=some tg} t).l.say t (-1) 1 (s.l.us t))) (C:=C) (x:=⟨1,0,0⟩) Rt (by omega) rfl fC rfl ht (by show s.l.el+1<1000000000;omega) rJ fy jJ (by decide)
   (fun eN dY w' C' hl hi hz gT g2 c2 v2 ho dr hc h1 h2 h3=>(Cb▸K) eN dY w' C' hl hi (by omega) gT g2 c2 v2 g' aj bA ho dr hc h1 h2 h3)
   (fun gT C' w' g2 c2 v2 g3 c3 v3 eF dr eP hi hz=>(Cb▸K2) gT C' w' g' aj bA g2 c2 v2 g3 c3 v3 eF dr eP hi (by omega))
   ⟨S4.env,S4.au,rfl⟩
end
end Go.Proofs.YtobagnjnbmgidaaGreatDoor
