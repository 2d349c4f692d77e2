import Derived.Test.YtobagnjnbmgidaaGreatDoorR2
set_option linter.all false
set_option maxHeartbeats 8000000
set_option maxRecDepth 100000
namespace Go.Proofs.YtobagnjnbmgidaaGreatDoor
open Go.Conc Go.RowKit Tryz
section
variable{main:Bool}{B:Nat}{Ok:Addr→Bool→Prop}{Ψ:Goroutine→World→Prop}
abbrev lk(L:List iO)(j:Nat):iO:=L.getD j ⟨0,0,0⟩
theorem Ig(L:List iO)(k:Int)(i:Nat)(h:i<L.length):(L.drop i).any (fun x=>x.k==k)=((lk L i).k==k||(L.drop (i+1)).any fun x=>x.k==k):=by
 have e:lk L i=L[i]:=by simp[lk,h]
 rw[List.drop_eq_getElem_cons h,List.any_cons,e]
theorem Ma(F:aC prog main (DX Ok) Ψ)(hB:HB B Ok){b:Frame}(af:b.kind=.normal)(aJ:b.fn=124){cf:Frame}{cs:List Frame}{k1 n1 kT:Int}{ca:Addr}{cap:Nat}{L:List iO}{M:List ah}(hlen:L.length<1000000000):
 ∀m i,i+m=L.length→∀a w,a.defers=[]→St Ok B 21 [(5,i6 i),(2,ptr B),(1,i6 kT)] (bR B [i6 k1,i6 n1,.slice (some ca) L.length cap]::iL ca L::M) 1 a w→
 (∀w',Sat Ok w' M→B≤w'.heap.size→Ψ (G (cf.finish (.bool ((L.drop i).any fun x=>x.k==kT))) cs) w')→Ψ (G (b.at a (pc prog 124 12 [] [])) (cf::cs)) w
 |0,i,hi,a,w,hd,S,K=>by
  refine zv F aL hB af 15 [(0,(0,2),true)] [(false,false)] [] [(4,.bool false)] 27 [false] [] [(decide ((i:Int)<L.length),false)] [] [] (by kernel_rfl) (by kernel_rfl) (by simp;omega) (by simp) (by simp) S fun a' w' S' oD fr=>?_
  refine dA F S' af aJ (oD.trans hd) [] (.bool false) ?_;have hf:(L.drop i).any (fun x=>x.k==kT)=false:=by rw[List.drop_of_length_le (by omega)];rfl
  rw[hf] at K;exact K w' S'.au.tail.tail (by have:=S'.sz;omega)
 |m+1,i,hi,a,w,hd,S,K=>by
  rw[Ig L kT i (by omega)] at K
  by_cases hk:(lk L i).k=kT
  ·refine zv F aL hB af 29 [(0,(0,2),true),(0,(0,2),true),(1,(i,0),false)] [(true,false),(true,false),(true,false)] [] [(4,.bool true)] 41 [true,true] [] [((lk L i).k==kT,true),(decide ((i:Int)<L.length),true)] [((i:Int),L.length)] [(i,L.length)] (by kernel_rfl) (by kernel_rfl) (by simp only[List.mem_cons,List.not_mem_nil,or_false,forall_eq_or_imp,forall_eq,beq_iff_eq,decide_eq_true_eq];exact⟨hk,by omega⟩) (by simp;omega) (by simp;omega) S fun a' w' S' oD fr=>?_
   refine dA F S' af aJ (oD.trans hd) [] (.bool true) ?_;have hf:((lk L i).k==kT)=true:=by simpa using hk
   rw[hf,Bool.true_or] at K;exact K w' S'.au.tail.tail (by have:=S'.sz;omega)
  ·have hf:((lk L i).k==kT)=false:=by simpa using hk
   rw[hf,Bool.false_or] at K;refine zv F aL hB af 33 [(0,(0,2),true),(0,(0,2),true),(1,(i,0),false)] [(true,false),(true,false),(false,false)] [] [(5,i6 (IntKind.wrap .i64 (i+1))),(2,ptr B),(1,i6 kT)] 12 [] [] [((lk L i).k==kT,false),(decide ((i:Int)<L.length),true)] [((i:Int),L.length)] [(i,L.length)] (by kernel_rfl) (by kernel_rfl) (by simp only[List.mem_cons,List.not_mem_nil,or_false,forall_eq_or_imp,forall_eq,decide_eq_true_eq];exact⟨hf,by omega⟩) (by simp;omega) (by simp;omega) S fun a' w' S' oD fr=>?_
   rw[bI (by omega) (by omega)] at S';exact Ma F hB af aJ hlen m (i+1) (by omega) a' w' (oD.trans hd) S' K
theorem L9(F:aC prog main (DX Ok) Ψ)(hB:HB B Ok){cf:Frame}{cs:List Frame}{w:World}{b:Bk}{ho:Option Addr}{hl hc:Nat}{kT:Int}{M:List ah}(hS:Sat Ok w M)(eC:gQ M (.slice ho hl hc) b.ch)(hlen:b.ch.length<1000000000)(ey:B≤w.heap.size)(K:∀w',Sat Ok w' M→w.heap.size≤w'.heap.size→Ψ (G (cf.finish (.bool (cH b kT))) cs) w'):Ψ (G (Frame.enter prog 124 #[p9 b (.slice ho hl hc),i6 kT] .normal) (cf::cs)) w:=by
 have oQ:HB w.heap.size Ok:=fun a wr h=>hB a wr (Nat.le_trans ey h)
 refine lP f124 func124 _ rfl fun bb a af aJ hd hA=>?_
 rcases eC with ⟨h1,h2⟩|⟨ca,cap,i,h1,h2⟩
 ·cases h1
  have S:St Ok w.heap.size 21 [(0,p9 b (.slice none 0 0)),(1,i6 kT)] M 0 a w:=⟨hA,hS,rfl⟩;generalize w.heap.size=B' at*;refine bk F aL oQ af 27 [(0,(0,2),true)] [(false,true)] [] [(4,.bool false)] (bR B' [i6 b.k,i6 b.n,.slice none 0 0]::·) 1 27 [false] [] [] [] [] (by kernel_rfl) (by kernel_rfl) (by simp) (by simp) (by simp) S fun a1 w1 S1 aG _ _=>?_
  refine dA F S1 af aJ (aG.trans hd) [] (.bool false) ?_;have hf:cH b kT=false:=by unfold cH;rw[h2];rfl
  rw[hf] at K;exact K w1 S1.au.tail (by have:=S1.sz;omega)
 ·cases h1
  have S:St Ok w.heap.size 21 [(0,p9 b (.slice (some ca) b.ch.length hc)),(1,i6 kT)] (iL ca b.ch::M) 0 a w:=⟨hA,hS.dup h2 rfl,rfl⟩;generalize w.heap.size=B' at*;refine bk F aL oQ af 12 [] [] [] [(5,i6 (0:Nat)),(2,ptr B'),(1,i6 kT)] (bR B' [i6 b.k,i6 b.n,.slice (some ca) b.ch.length hc]::·) 1 12 [] [] [] [] [] (by kernel_rfl) (by kernel_rfl) (by simp) (by simp) (by simp) S fun a1 w1 S1 aG _ _=>?_
  exact Ma F oQ af aJ hlen _ 0 (Nat.zero_add _) a1 w1 (aG.trans hd) S1 K
end
section
variable{main:Bool}{B:Nat}{Ok:Addr→Bool→Prop}{Ψ:Goroutine→World→Prop}
def nG(Ok:Addr→Bool→Prop)(B:Nat)(Ψ:Goroutine→World→Prop)(cf:Frame)(cs:List Frame)(eN:Frame)(dY:List Frame):Prop:=
 ∀w M,Sat Ok w M→B≤w.heap.size→(∀w3,Sat Ok w3 M→w.heap.size≤w3.heap.size→Ψ (G (cf.finish (.tuple #[])) cs) w3)→Ψ (G (eN.finish (.tuple #[])) dY) w
theorem QT(F:aC prog main (DX Ok) Ψ)(hB:HB B Ok){cf:Frame}{cs:List Frame}{w:World}{s:RS}{C:List ah}{tg:Addr}{t k:Nat}{b:Bk}{ho:Option Addr}{hl hc:Nat}(hS:Sat Ok w (mR s++C))(ey:B≤w.heap.size)(jy:s.ta=some tg)(ht:t<s.l.tl)(RO:(s.l.tk t).o=-1)(hk:k<1000)(K:∀eN dY w' r,nG Ok B Ψ cf cs eN dY→Sat Ok w' (mR s++(r::C))→w.heap.size≤w'.heap.size→(k=0→Ψ (G (Frame.enter prog 100 #[ptr s.gm,i6 t,p9 b (.slice ho hl hc)] .normal) (eN::dY)) w')∧(∀j,k=j+1→Ψ (G (Frame.enter prog 101 #[ptr s.gm,i6 t,i6 j,p9 b (.slice ho hl hc)] .normal) (eN::dY)) w')):
 Ψ (G (Frame.enter prog 83 #[ptr s.gm,i6 t,i6 k,p9 b (.slice ho hl hc)] .normal) (cf::cs)) w:=by
 obtain⟨s,rfl⟩:=RS.lV jy;refine lP f83 func83 _ rfl fun bb a af aJ hd hA=>?_
 have oQ:HB w.heap.size Ok:=fun a wr h=>hB a wr (Nat.le_trans ey h)
 have S:St Ok w.heap.size 29 [(0,ptr s.gm),(1,i6 t),(2,i6 k),(3,p9 b (.slice ho hl hc))] _ 0 a w:=⟨hA,hS,rfl⟩;have su:t<s.l.tl:=ht;have Wy:(s.l.tk t).o=-1:=RO;have hw:IntKind.wrap .i64 ((s.l.tk t).o+1)=0:=by rw[Wy];decide
 generalize w.heap.size=B' at*;rcases Nat.eq_zero_or_pos k with sB|sB
 ·subst sB
  refine bk F aL oQ af 25 [(1,(0,4),true),(4,(t,3),false),(0,(0,0),true),(0,(0,1),true),(0,(0,2),true)] [(true,false),(true,false)] [] [(21,p9 b (.slice ho hl hc)),(20,i6 t),(19,ptr s.gm)] (bR B' [i6 b.k,i6 b.n,.slice ho hl hc]::·) 1 25 [true] [] [(((0:Nat):Int)==IntKind.wrap .i64 ((s.l.tk t).o+1),true)] [((t:Int),s.l.tl)] [(t,s.l.tl)] (by kernel_rfl) (by kernel_rfl) (by simp[hw]) (by simp;omega) (by simp;omega) S fun a1 w1 S1 aG _ _=>?_
  refine O1 F af 22 100 #[ptr s.gm,i6 t,p9 b (.slice ho hl hc)] (by kernel_rfl) (by kernel_rfl) (by decide) S1 fun eN uV=>?_
  refine(K eN _ w1 _ (fun w2 M h2 fK hz=>uV _ _ fun a2 eG aW=>?_) S1.au.lay (by have:=S1.sz;omega)).1 rfl;have S2:St Ok w2.heap.size 29 _ M 0 a2 w2:=⟨eG,h2,rfl⟩;refine zv F aL (fun a wr h=>hB a wr (Nat.le_trans fK h)) af 1 [] [] [] [] 27 [true] [] [] [] [] (by kernel_rfl) (by kernel_rfl) (by simp) (by simp) (by simp) S2 fun a3 w3 S3 bD fr=>?_
  exact dA F S3 af aJ (by rw[bD,aW,aG,hd]) [] (.tuple #[]) (hz w3 S3.au fr.size)
 ·obtain⟨j,rfl⟩:∃j,k=j+1:=⟨k-1,by omega⟩
  have EU:IntKind.wrap .i64 (((j+1:Nat):Int)-1)=j:=by rw[bI (by omega) (by omega)];omega
  have aN:(((j+1:Nat):Int)==IntKind.wrap .i64 ((s.l.tk t).o+1))=false:=by rw[hw];simp;omega
  refine bk F aL oQ af 27 [(1,(0,4),true),(4,(t,3),false),(0,(0,0),true),(0,(0,1),true),(0,(0,2),true)] [(true,false),(false,false)] [] [(27,p9 b (.slice ho hl hc)),(26,i6 (IntKind.wrap .i64 (((j+1:Nat):Int)-1))),(24,i6 t),(23,ptr s.gm)] (bR B' [i6 b.k,i6 b.n,.slice ho hl hc]::·) 1 27 [false] [] [(((j+1:Nat):Int)==IntKind.wrap .i64 ((s.l.tk t).o+1),false)] [((t:Int),s.l.tl)] [(t,s.l.tl)] (by kernel_rfl) (by kernel_rfl) (by simp only[List.mem_cons,List.not_mem_nil,or_false,forall_eq];exact aN) (by simp;omega) (by simp;omega) S fun a1 w1 S1 aG _ _=>?_
  rw[EU] at S1;refine O1 F af 28 101 #[ptr s.gm,i6 t,i6 j,p9 b (.slice ho hl hc)] (by kernel_rfl) (by kernel_rfl) (by decide) S1 fun eN uV=>?_
  refine(K eN _ w1 _ (fun w2 M h2 fK hz=>uV _ _ fun a2 eG aW=>?_) S1.au.lay (by have:=S1.sz;omega)).2 j rfl;have S2:St Ok w2.heap.size 29 _ M 0 a2 w2:=⟨eG,h2,rfl⟩;refine zv F aL (fun a wr h=>hB a wr (Nat.le_trans fK h)) af 1 [] [] [] [] 29 [false] [] [] [] [] (by kernel_rfl) (by kernel_rfl) (by simp) (by simp) (by simp) S2 fun a3 w3 S3 bD fr=>?_
  exact dA F S3 af aJ (by rw[bD,aW,aG,hd]) [] (.tuple #[]) (hz w3 S3.au fr.size)
end
section
variable{main:Bool}{B:Nat}{Ok:Addr→Bool→Prop}{Ψ:Goroutine→World→Prop}
abbrev RS.nF(s:RS)(t k:Nat)(n:Int):RS:={s with l:={s.l with tk:=upd s.l.tk t {s.l.tk t with a:=upd (s.l.tk t).a k n}}}
theorem OU(F:aC prog main (DX Ok) Ψ)(hB:HB B Ok){cf:Frame}{cs:List Frame}{w:World}{s:RS}{C:List ah}{tg:Addr}{t k:Nat}(hS:Sat Ok w (mR s++C))(ey:B≤w.heap.size)(jy:s.ta=some tg)(ht:t<s.l.tl)(hk:k≤s.V.nl)(Eb:s.V.nl≤6)(AO:0<s.V.nl→∃la,s.la=some la)(LW:k<s.V.nl→(s.V.ly k).k=1∨(s.V.ly k).k=2)(K:∀eN dY w' C',nG Ok B Ψ cf cs eN dY→(∀i r,nth C i=some r→∃j,nth C' j=some r)→w.heap.size≤w'.heap.size→
 (k=s.V.nl→Sat Ok w' (mR s++C')→Ψ (G (Frame.enter prog 76 #[ptr s.gm,i6 t] .normal) (eN::dY)) w')∧
 (k<s.V.nl→(s.V.ly k).k=1→Sat Ok w' (mR (s.nF t k 1)++C')→Ψ (G (Frame.enter prog 58 #[ptr s.gm,i6 t,i6 (k+1:Nat)] .normal) (eN::dY)) w')∧
 (k<s.V.nl→(s.V.ly k).k=2→Sat Ok w' (mR s++C')→Ψ (G (Frame.enter prog 58 #[ptr s.gm,i6 t,i6 (k+1:Nat)] .normal) (eN::dY)) w')):
 Ψ (G (Frame.enter prog 58 #[ptr s.gm,i6 t,i6 k] .normal) (cf::cs)) w:=by
 obtain⟨s,rfl⟩:=RS.lV jy;refine lP f58 func58 _ rfl fun bb a af aJ hd hA=>?_
 have oQ:HB w.heap.size Ok:=fun a wr h=>hB a wr (Nat.le_trans ey h)
 have S:St Ok w.heap.size 113 [(0,ptr s.gm),(1,i6 t),(2,i6 k)] _ 0 a w:=⟨hA,hS,rfl⟩;have su:t<s.l.tl:=ht;have gB:k≤s.V.nl:=hk;have RZ:s.V.nl≤6:=Eb;generalize w.heap.size=B' at*;rcases Nat.eq_or_lt_of_le gB with nC|nC
 ·have hc:(((k:Nat):Int)==(s.V.nl:Int))=true:=by simp[nC]
  refine zv F aL oQ af 16 [(0,(0,0),true)] [(true,false)] [] [(17,i6 t),(16,ptr s.gm)] 16 [true] [] [((k:Int)==s.V.nl,true)] [] [] (by kernel_rfl) (by kernel_rfl) (by simp only[List.mem_cons,List.not_mem_nil,or_false,forall_eq];exact hc) (by simp) (by simp) S fun a1 w1 S1 aG _=>?_
  refine O1 F af 18 76 #[ptr s.gm,i6 t] (by kernel_rfl) (by kernel_rfl) (by decide) S1 fun eN uV=>?_
  refine(K eN _ w1 C (fun w2 M h2 fK hz=>uV _ _ fun a2 eG aW=>?_) (fun i r h=>⟨i,h⟩) (by have:=S1.sz;omega)).1 nC S1.au;have S2:St Ok w2.heap.size 113 _ M 0 a2 w2:=⟨eG,h2,rfl⟩;refine zv F aL (fun a wr h=>hB a wr (Nat.le_trans fK h)) af 1 [] [] [] [] 18 [true] [] [] [] [] (by kernel_rfl) (by kernel_rfl) (by simp) (by simp) (by simp) S2 fun a3 w3 S3 bD fr=>?_
  exact dA F S3 af aJ (by rw[bD,aW,aG,hd]) [] (.tuple #[]) (hz w3 S3.au fr.size)
 ·have hc:(((k:Nat):Int)==(s.V.nl:Int))=false:=by simp;omega
  obtain⟨la,AO⟩:=AO (show 0<s.V.nl by omega);obtain⟨s,rfl⟩:=RS.GI (s:=s) AO;replace su:t<s.l.tl:=su;replace nC:k<s.V.nl:=nC;replace RZ:s.V.nl≤6:=RZ;have xY:IntKind.wrap .i64 ((k:Int)+1)=((k+1:Nat):Int):=by rw[bI (by omega) (by omega)];rfl
  rcases LW nC with h1|h2
  ·have cP:((s.V.ly k).k==1)=true:=by rw[show(s.V.ly k).k=1 from h1];rfl
   have J9:k=0∨k=1∨k=2∨k=3∨k=4∨k=5:=by omega
   refine bk F aL oQ af 55 [(0,(0,0),true),(0,(0,0),true),(11,(k,0),false),(11,(k,1),false),(11,(k,2),false),(11,(k,3),false),(11,(k,4),false),(11,(k,5),false),(0,(0,0),true),(0,(0,1),true),(0,(0,2),true),(0,(0,3),true),(0,(0,4),true),(0,(0,5),true),(0,(0,0),true),(1,(0,4),true),(4,(t,7+k),false)] [(false,false),(true,false),(true,false),(true,false),(true,true)] [] [(42,i6 (IntKind.wrap .i64 ((k:Int)+1))),(40,i6 t),(39,ptr s.gm)] (fun _=>bR B' (BU (s.V.ly k))::(gM (mR (RS.nF {s with la:=some la,ta:=some tg} t k 1)) 3 {vR (some tg) 19 (fun j=>FM (s.l.tk j)) s.l.tl s.tc 131 with vl:=vf (fun j f=>(FM (s.l.tk j)).getD f undef) t (7+k) (i6 1)}++C)) 1 55 [false,true] [] [((s.V.ly k).k==1,true),((k:Int)==s.V.nl,false)] [((t:Int),s.l.tl),((k:Int),s.V.nl)] [(t,s.l.tl),(k,s.V.nl),(k,s.V.nl),(k,s.V.nl),(k,s.V.nl),(k,s.V.nl),(k,s.V.nl)] ?_ ?_ (by simp only[List.mem_cons,List.not_mem_nil,or_false,forall_eq_or_imp,forall_eq];exact⟨cP,hc⟩) (by simp;omega) (by simp;omega) S fun a1 w1 S1 aG _ _=>?_
   ·rcases J9 with rfl|rfl|rfl|rfl|rfl|rfl<;>kernel_rfl
   ·rcases J9 with rfl|rfl|rfl|rfl|rfl|rfl<;>kernel_rfl
   rw[xY] at S1;replace S1:St Ok B' 113 _ (bR B' (BU (s.V.ly k))::(mR (RS.nF {s with la:=some la,ta:=some tg} t k 1)++C)) 1 a1 w1:=⟨S1.env,S1.au.re 4 rfl rfl _ fun j _ f _=>iz (by rcases J9 with rfl|rfl|rfl|rfl|rfl|rfl<;>rfl) (show 7+k<19 by omega) j f,S1.sz⟩;refine O1 F af 43 58 #[ptr s.gm,i6 t,i6 (k+1:Nat)] (by kernel_rfl) (by kernel_rfl) (by decide) S1 fun eN uV=>?_
   refine(K eN _ w1 _ (fun w2 M h2 fK hz=>uV _ _ fun a2 eG aW=>?_) (fun i r h=>⟨i+1,h⟩) (by have:=S1.sz;omega)).2.1 nC h1 S1.au.lay;have S2:St Ok w2.heap.size 113 _ M 0 a2 w2:=⟨eG,h2,rfl⟩;refine zv F aL (fun a wr h=>hB a wr (Nat.le_trans fK h)) af 2 [] [] [] [] 58 [false,true] [] [] [] [] (by kernel_rfl) (by kernel_rfl) (by simp) (by simp) (by simp) S2 fun a3 w3 S3 bD fr=>?_
   exact dA F S3 af aJ (by rw[bD,aW,aG,hd]) [] (.tuple #[]) (hz w3 S3.au fr.size)
  ·have cP:((s.V.ly k).k==1)=false:=by rw[show(s.V.ly k).k=2 from h2];rfl
   have mq:((s.V.ly k).k==2)=true:=by rw[show(s.V.ly k).k=2 from h2];rfl
   refine bk F aL oQ af 48 [(0,(0,0),true),(0,(0,0),true),(11,(k,0),false),(11,(k,1),false),(11,(k,2),false),(11,(k,3),false),(11,(k,4),false),(11,(k,5),false),(0,(0,0),true),(0,(0,1),true),(0,(0,2),true),(0,(0,3),true),(0,(0,4),true),(0,(0,5),true),(0,(0,0),true)] [(false,false),(true,false),(false,false),(true,false)] [] [(49,i6 (IntKind.wrap .i64 ((k:Int)+1))),(47,i6 t),(46,ptr s.gm)] (bR B' (BU (s.V.ly k))::·) 1 48 [false,false,true] [] [((s.V.ly k).k==2,true),((s.V.ly k).k==1,false),((k:Int)==s.V.nl,false)] [((k:Int),s.V.nl)] [(k,s.V.nl),(k,s.V.nl),(k,s.V.nl),(k,s.V.nl),(k,s.V.nl),(k,s.V.nl)] (by kernel_rfl) (by kernel_rfl) (by simp only[List.mem_cons,List.not_mem_nil,or_false,forall_eq_or_imp,forall_eq];exact⟨mq,cP,hc⟩) (by simp;omega) (by simp;omega) S fun a1 w1 S1 aG _ _=>?_
   rw[xY] at S1;refine O1 F af 50 58 #[ptr s.gm,i6 t,i6 (k+1:Nat)] (by kernel_rfl) (by kernel_rfl) (by decide) S1 fun eN uV=>?_
   refine(K eN _ w1 _ (fun w2 M h2 fK hz=>uV _ _ fun a2 eG aW=>?_) (fun i r h=>⟨i+1,h⟩) (by have:=S1.sz;omega)).2.2 nC h2 S1.au.lay;have S2:St Ok w2.heap.size 113 _ M 0 a2 w2:=⟨eG,h2,rfl⟩;refine zv F aL (fun a wr h=>hB a wr (Nat.le_trans fK h)) af 2 [] [] [] [] 51 [false,false,true] [] [] [] [] (by kernel_rfl) (by kernel_rfl) (by simp) (by simp) (by simp) S2 fun a3 w3 S3 bD fr=>?_
   exact dA F S3 af aJ (by rw[bD,aW,aG,hd]) [] (.tuple #[]) (hz w3 S3.au fr.size)
end
section
variable{main:Bool}{B:Nat}{Ok:Addr→Bool→Prop}{Ψ:Goroutine→World→Prop}
theorem Sat.U9{w:World}{M:List ah}{nb:Nat}{a l n:Int}(h:Sat Ok w (bR nb [i6 a,i6 l,i6 n]::M)):Sat Ok w (iL ⟨nb,0,none⟩ [⟨a,l,n⟩]::M):=by
 refine h.Jx 0 rfl (iL ⟨nb,0,none⟩ [⟨a,l,n⟩]) (fun j hj=>?_) (fun z=>by cases z) rfl;obtain⟨j,f⟩:=j;obtain⟨h1,h2⟩:=hj;simp only[List.length_cons,List.length_nil] at h1 h2;have e:j=0:=by omega
 subst e;refine⟨⟨by simp,h2⟩,by simp only[add_add];simp,?_⟩;rcases f with _|_|_|f
 ·rfl
 ·rfl
 ·rfl
 ·omega
theorem O4(F:aC prog main (DX Ok) Ψ)(hB:HB B Ok){cf:Frame}{cs:List Frame}{w:World}{s:RS}{C:List ah}{tg:Addr}{t k:Nat}{b:Bk}{ho:Option Addr}{hl hc:Nat}(hS:Sat Ok w (mR s++C))(hv:RV Ok s)(ey:B≤w.heap.size)(jy:s.ta=some tg)(ht:t<s.l.tl)(hk:k<s.V.nl)(kO:s.l.el<1000000000)(AO:∃la,s.la=some la)(LW:(s.V.ly k).k=1∨(s.V.ly k).k=2)(K:∀eN dY w' C',nG Ok B Ψ cf cs eN dY→(∀i r,nth C i=some r→∃j,nth C' j=some r)→w.heap.size≤w'.heap.size→
 ((s.V.ly k).k=1→Sat Ok w' (mR s++C')→Ψ (G (Frame.enter prog 116 #[ptr s.gm,i6 t,i6 k,.agg (BU (s.V.ly k)).toArray,p9 b (.slice ho hl hc)] .normal) (eN::dY)) w')∧
 ((s.V.ly k).k=2→b.k≠3→Sat Ok w' (mR s++C')→Ψ (G (Frame.enter prog 83 #[ptr s.gm,i6 t,i6 k,p9 b (.slice ho hl hc)] .normal) (eN::dY)) w')∧
 ((s.V.ly k).k=2→b.k=3→∀g' aj bA nb i,Sat Ok w' (mR (s.jN g' aj bA (s.l.say t k 5 b.n))++C')→RV Ok (s.jN g' aj bA (s.l.say t k 5 b.n))→B≤nb→nth C' i=some (iL ⟨nb,0,none⟩ [⟨6,k,b.n⟩])→Ψ (G (Frame.enter prog 83 #[ptr s.gm,i6 t,i6 k,p9 (mE 6 k b.n) (.slice (some ⟨nb,0,none⟩) 1 1)] .normal) (eN::dY)) w')):
 Ψ (G (Frame.enter prog 101 #[ptr s.gm,i6 t,i6 k,p9 b (.slice ho hl hc)] .normal) (cf::cs)) w:=by
 obtain⟨la,AO⟩:=AO;obtain⟨s,rfl⟩:=RS.GI AO;replace ht:t<s.l.tl:=ht;replace hk:k<s.V.nl:=hk;replace kO:s.l.el<1000000000:=kO;refine iT f101 func101 _ rfl 60 (by kernel_rfl) hS fun bb a0 B1 hn af aJ aP S0 dH=>?_
 rcases LW with h1|h1
 ·refine cJ F hB af aP S0 36 [1,0,0,1,12,k,0,106,0,0,0,6,0,0,0,1,0,0,0,6,1,0,0,3] [2,2] [] [(24,.agg #[i6 b.k,i6 b.n,.slice ho hl hc]),(23,.agg #[i6 (s.V.ly k).k,i6 (s.V.ly k).a,i6 (s.V.ly k).b,i6 (s.V.ly k).c,i6 (s.V.ly k).d,i6 (s.V.ly k).e]),(22,i6 k),(21,i6 t),(20,ptr s.gm)] (fun M=>bR (B1+1) [i6 (s.V.ly k).k,i6 (s.V.ly k).a,i6 (s.V.ly k).b,i6 (s.V.ly k).c,i6 (s.V.ly k).d,i6 (s.V.ly k).e]::(bR (B1) [i6 b.k,i6 b.n,.slice ho hl hc]::(M))) 2 36 [true] [] [((s.V.ly k).k==1,true)] [((↑k:Int),s.V.nl)] [(6,(k,s.V.nl))] fun a1 w1 S1 aG ck cV cW=>?_
  refine fT F af aG S1 25 116 #[ptr s.gm,i6 t,i6 k,.agg #[i6 (s.V.ly k).k,i6 (s.V.ly k).a,i6 (s.V.ly k).b,i6 (s.V.ly k).c,i6 (s.V.ly k).d,i6 (s.V.ly k).e],.agg #[i6 b.k,i6 b.n,.slice ho hl hc]] fun kP bK=>?_
  refine(K kP _ w1 _ (fun w2 M h2 fK hz=>bK _ _ _ h2 fun a2 B2 S2 aW dV=>?_) (fun i r h=>⟨i+2,h⟩) cV).1 h1 (Sat.back (A:=mR {s with la:=some la}) (Sat.back (A:=bR B1 [i6 b.k,i6 b.n,.slice ho hl hc]::mR {s with la:=some la}) S1.au));refine aD F hB af aW S2 1 [] [] [] [] (fun M=>M) 0 38 [true] [] fun a3 w3 S3 bD eu fS gD=>?_
  refine dA F S3 af aJ bD [] (.tuple #[]) ?_;exact hz w3 S3.au fS
 ·by_cases uw:b.k=3
  ·refine cJ F hB af aP S0 49 [1,0,0,1,12,k,0,106,0,0,0,6,0,0,0,1,1,0,0,2] [2,0,2,2] [] [(35,i6 b.n),(33,i6 k),(32,i6 t),(31,ptr s.gm),(7,ptr B1),(0,ptr s.gm),(1,i6 t),(2,i6 k)] (fun M=>bR (B1+1) [i6 (s.V.ly k).k,i6 (s.V.ly k).a,i6 (s.V.ly k).b,i6 (s.V.ly k).c,i6 (s.V.ly k).d,i6 (s.V.ly k).e]::(bR (B1) [i6 b.k,i6 b.n,.slice ho hl hc]::(M))) 2 49 [false,true,true] [] [(b.k==3,true),((s.V.ly k).k==2,true),((s.V.ly k).k==1,false)] [((↑k:Int),s.V.nl)] [(6,(k,s.V.nl))] fun a1 w1 S1 aG ck cV cW=>?_
   refine fT F af aG S1 36 82 #[ptr s.gm,i6 t,i6 k,i6 5,i6 b.n] fun kP bK=>?_
   refine vi F hB (s:={s with la:=some la}) (Sat.back (A:=mR {s with la:=some la}) (Sat.back (A:=bR B1 [i6 b.k,i6 b.n,.slice ho hl hc]::mR {s with la:=some la}) S1.au)) hv (by omega) kO jy ht fun g' aj bA w2 h2 qU kX=>bK _ _ _ h2 fun a2 B2 S2 aW dV=>?_
   refine aD F hB af aW S2 29 [13,0,1,1,1,0,0,3,1,0,0,3,15,0,0,3,15,0,0,3] [] [] [(58,.agg #[i6 2,i6 0,.slice (some ⟨B2+1,0,none⟩) 1 1]),(57,i6 k),(56,i6 t),(55,ptr s.gm)] (fun M=>bR (B2+1) [i6 6,i6 k,i6 b.n]::(bR (B2) [i6 2,i6 0,.slice (some ⟨B2+1,0,none⟩) 1 1]::(gH 13 (0,2) (.slice (some ⟨B2+1,0,none⟩) 1 1) (gH 13 (0,1) (i6 0) (gH 13 (0,0) (i6 2) (M)))))) 2 64 [false,true,true] [] fun a3 w3 S3 bD eu fS gD=>?_
   refine fT F af bD S3 59 83 #[ptr s.gm,i6 t,i6 k,.agg #[i6 2,i6 0,.slice (some ⟨B2+1,0,none⟩) 1 1]] fun vO ij=>?_
   have h3:=Sat.back (A:=mR (RS.jN {s with la:=some la} g' aj bA (s.l.say t k 5 b.n))) (Sat.back (A:=bR B2 [i6 2,i6 0,.slice (some ⟨B2+1,0,none⟩) 1 1]::mR (RS.jN {s with la:=some la} g' aj bA (s.l.say t k 5 b.n))) (C:=bR B1 [i6 2,i6 0,.slice (some ⟨B2+1,0,none⟩) 1 1]::bR (B1+1) (BU (s.V.ly k))::C) (Sat.U9 S3.au));refine(K vO _ w3 _ (fun w4 M h4 L8 hz=>ij _ _ _ h4 fun a4 B4 S4 fC oJ=>?_) (fun i r h=>⟨i+4,h⟩) (by omega)).2.2 h1 uw g' aj bA (B2+1) 1 h3 qU (by omega) rfl;refine aD F hB af fC S4 1 [] [] [] [] (fun M=>M) 0 66 [false,true,true] [] fun a5 w5 S5 dU jT kC rq=>?_
   refine dA F S5 af aJ dU [] (.tuple #[]) ?_;exact hz w5 S5.au kC
  ·refine cJ F hB af aP S0 49 [1,0,0,1,12,k,0,106,0,0,0,6,0,0,0,1,1,0,0,1,1,0,0,3] [2,0,2,0] [] [(58,.agg #[i6 b.k,i6 b.n,.slice ho hl hc]),(57,i6 k),(56,i6 t),(55,ptr s.gm)] (fun M=>bR (B1+1) [i6 (s.V.ly k).k,i6 (s.V.ly k).a,i6 (s.V.ly k).b,i6 (s.V.ly k).c,i6 (s.V.ly k).d,i6 (s.V.ly k).e]::(bR (B1) [i6 b.k,i6 b.n,.slice ho hl hc]::(M))) 2 49 [false,true,false] [] [(b.k==3,false),((s.V.ly k).k==2,true),((s.V.ly k).k==1,false)] [((↑k:Int),s.V.nl)] [(6,(k,s.V.nl))] fun a1 w1 S1 aG ck cV cW=>?_
   refine fT F af aG S1 59 83 #[ptr s.gm,i6 t,i6 k,.agg #[i6 b.k,i6 b.n,.slice ho hl hc]] fun kP bK=>?_
   refine(K kP _ w1 _ (fun w2 M h2 fK hz=>bK _ _ _ h2 fun a2 B2 S2 aW dV=>?_) (fun i r h=>⟨i+2,h⟩) cV).2.1 h1 uw (Sat.back (A:=mR {s with la:=some la}) (Sat.back (A:=bR B1 [i6 b.k,i6 b.n,.slice ho hl hc]::mR {s with la:=some la}) S1.au));refine aD F hB af aW S2 1 [] [] [] [] (fun M=>M) 0 51 [false,true,false] [] fun a3 w3 S3 bD eu fS gD=>?_
   refine dA F S3 af aJ bD [] (.tuple #[]) ?_;exact hz w3 S3.au fS
end
end Go.Proofs.YtobagnjnbmgidaaGreatDoor
