import Derived.Test.YtobagnjnbmgidaaGreatDoorP13
set_option linter.all false
set_option maxHeartbeats 8000000
set_option maxRecDepth 100000
namespace Go.Proofs.YtobagnjnbmgidaaGreatDoor
open Go.Conc Go.RowKit Tryz
theorem JF(e:iO):∀u∈pX e,u.oneCell'=true:=by intro u hu;simp[pX] at hu;rcases hu with rfl|rfl|rfl<;>rfl
theorem Sat.iV{Ok:Addr→Bool→Prop}{w:World}{M:List ah}(h:Sat Ok w M){r:ah}(hn:r.n=0)(hr:r.row=none):Sat Ok w (r::M):=by
 rw[sat_iff] at h ⊢;have hf:∀j,¬r.has j:=fun j hj=>by have:=hj.1;omega
 refine⟨fun x hx=>?_,List.pairwise_cons.2 ⟨fun x _ _ j j' hj=>absurd hj (hf j),h.2⟩⟩;rcases List.mem_cons.1 hx with rfl|hx
 ·exact⟨fun j hj=>absurd hj (hf j),fun j hj=>absurd hj (hf j),fun _ j _ hj=>absurd hj (hf j),fun g e n hg=>by rw[hr] at hg;cases hg⟩
 ·exact h.1 x hx
section
variable{main:Bool}{B:Nat}{Ok:Addr→Bool→Prop}{Ψ:Goroutine→World→Prop}
theorem CS(F:aC prog main (DX Ok) Ψ)(hB:HB B Ok){bb:Frame}(af:bb.kind=.normal)(aJ:bb.fn=55){cf:Frame}{cs:List Frame}{C:List ah}(hC:Has C (oR 0 0 [.iface 217 (.agg #[.pointer (some ⟨1,121,none⟩)])] false)){lk:Nat}(f:Nat→iO):
 ∀(ch:List iO)(n:Nat)(e v:Value)(sa:Option Addr)(cap:Nat)(vs:Nat→List Value),(∀j,j<ch.length→ch.getD j ⟨0,0,0⟩=f (n+j))→n+ch.length<1000000→rS C e ch→∀a0 w B1,a0.defers=[]→B≤B1→w.heap.size=B1→
   St Ok B1 29 [(4,ptr lk),(3,.slice sa n cap),(0,e)] (bR lk [v]::vR sa 3 (fun j=>pX (f j)) n cap 48::sR sa 3 vs n cap::C) 0 a0 w→Vc Ok sa n cap→
   (∀xR aj bA w',Sat Ok w' (vR xR 3 (fun j=>pX (f j)) (n+ch.length) aj 48::sR xR 3 bA (n+ch.length) aj::C)→Vc Ok xR (n+ch.length) aj→w.heap.size≤w'.heap.size→Ψ (G (cf.finish (.slice xR (n+ch.length:Nat) aj)) cs) w')→
   Ψ (G (bb.at a0 (pc prog 55 15 [] [])) (cf::cs)) w
 |[],n,e,v,sa,cap,vs,hf,hl,he,a0,w,B1,aP,hle,dH,S0,hv,K=>by
  have yW:e=.nilIface:=he;subst yW;refine aD F hB af aP S0 5 [] [] [] [(6,.iface 170 (ptr lk)),(5,.nilIface),(4,ptr lk),(3,.slice sa n cap)] (fun M=>M) 0 20 [] [] fun a1 w1 S1 aG ck cV cW=>?_
  refine fT F af aG S1 7 65 #[.nilIface,.iface 170 (ptr lk)] fun kP bK=>?_
  refine O7 F hB S1.au (by omega) fun w2 h2 kX=>bK _ _ _ h2 fun a2 B2 S2 aW dV=>?_
  refine aD F hB af aW S2 8 [] [1] [] [(2,.slice sa n cap)] (fun M=>M) 0 29 [false] [] fun a3 w3 S3 bD eu fS gD=>?_
  refine dA F S3 af aJ bD [] (.slice sa n cap) ?_;exact K sa cap vs w3 S3.au.tail hv (by omega)
 |x::ch,n,e,v,sa,cap,vs,hf,hl,he,a0,w,B1,aP,hle,dH,S0,hv,K=>by
  obtain⟨q,e',rfl,h1,h2⟩:=he;have h2e:=h2;simp only[List.length_cons] at hl K;refine aD F hB af aP S0 5 [] [] [] [(6,.iface 170 (ptr lk)),(5,.iface 168 (ptr q)),(4,ptr lk),(3,.slice sa n cap)] (fun M=>M) 0 20 [] [] fun a1 w1 S1 aG ck cV cW=>?_
  refine fT F af aG S1 7 65 #[.iface 168 (ptr q),.iface 170 (ptr lk)] fun kP bK=>?_
  refine Ya F hB hC.cons.cons S1.au (by omega) fun w2 hh2 kX=>bK _ _ _ (hh2.get h1.cons.cons.cons) fun a2 B2 S2 aW dV=>?_
  refine aD F hB af aW S2 6 [1,0,0,1,0,0,0,1,1,0,0,1,0,0,1,1,1,0,0,1,0,0,2,1] [3] [15] [(22,.slice (some ⟨B2,0,none⟩) 1 1),(8,.slice sa n cap),(4,ptr lk)] (fun M=>bR (B2) [i6 x.k,i6 x.l,i6 x.n]::(M)) 1 27 [true] [15] fun a3 w3 S3 bD eu fS gD=>?_
  refine Yd F (fun a wr z=>hB a wr (by omega)) af 8 22 23 44 48 3 24 3 4 0 (by kernel_rfl) (by kernel_rfl) (by kernel_rfl) (by decide) rfl rfl rfl rfl (by decide) rfl hv (fun _ _=>rfl) rfl (JF x) (Nat.le_refl _) (by simp only[maxLen];omega) (by omega) S3 fun g' aj iW bA a4 w4 A yf fC=>?_
  have oJ:=A.size;have hfx:x=f n:=by have:=hf 0 (by simp);simpa using this
  have Ou:Sat Ok w4 (bR B2 (pX x)::oR q 0 [i6 x.k,i6 x.l,i6 x.n,e'] false::bR lk [ptr q]::vR (some ⟨g',0,none⟩) 3 (fun j=>pX (f j)) (n+1) aj 48::sR (some ⟨g',0,none⟩) 3 bA (n+1) aj::C):=A.au.re 3 rfl rfl (fun j=>pX (f j)) fun j hj i _=>by
   show(pX (f j)).getD i undef=(iW j).getD i undef
   have bP:j<n+1:=hj
   by_cases e:j=n
   ·subst e;rw[A.new,←hfx]
   ·rw[A.old j (by omega)]
  have S4:St Ok w4.heap.size 29 _ _ 0 a4 w4:=⟨yf,Ou,rfl⟩;have aao:a4.defers=[]:=fC.trans bD;generalize hB4:w4.heap.size=B4 at*;rw[show nL (pc prog 55 27 [true] [15])=pc prog 55 28 [true] [15] by kernel_rfl]
  have hee:e'=.nilIface∨∃q',e'=.iface 168 (ptr q'):=by
   cases ch with
   |nil=>exact .inl h2
   |cons y ch=>obtain⟨q',_,h,_⟩:=h2;exact .inr ⟨q',h⟩
  have cL:∀a5 w5,a5.defers=[]→w5.heap.size=B4→St Ok B4 29 [(4,ptr lk),(3,.slice (some ⟨g',0,none⟩) (n+1) aj),(0,e')] (bR lk [ptr q]::vR (some ⟨g',0,none⟩) 3 (fun j=>pX (f j)) (n+1) aj 48::sR (some ⟨g',0,none⟩) 3 bA (n+1) aj::C) 0 a5 w5→Ψ (G (bb.at a5 (pc prog 55 15 [] [])) (cf::cs)) w5:=fun a5 w5 dU jT S5=>by
   refine CS F hB af aJ hC f ch (n+1) e' (ptr q) _ aj bA (fun j hj=>?_) (by omega) h2 a5 w5 B4 dU (by omega) jT S5 A.vc fun sa2 jP Il w6 h6 PE GO=>?_
   ·have:=hf (j+1) (by simp;omega)
    rw[show n+1+j=n+(j+1) by omega,←this];simp
   ·have e:n+1+ch.length=n+(ch.length+1):=by omega
    rw[e] at h6 PE;rw[e];exact K sa2 jP Il w6 h6 PE (by omega)
  rcases hee with rfl|⟨q',rfl⟩
  ·refine aD F hB af fC S4 11 [2,0,0,1,1,0,3,1] [] [] [(0,.nilIface),(3,.slice (some ⟨g',0,none⟩) (n+1) aj),(4,ptr lk)] (fun M=>M) 0 39 [true] [15] fun a5 w5 S5 dU jT kC rq=>?_
   rw[show pc prog 55 39 [true] [15]=pc prog 55 15 [] [] by kernel_rfl];have S6:=S5.fZ [(4,ptr lk),(3,.slice (some ⟨g',0,none⟩) (n+1) aj),(0,.nilIface)] (by kernel_rfl);exact cL a5 w5 (dU.trans bD) (by omega) ⟨S6.env,S6.au.tail.tail,S6.sz⟩
  ·refine aD F hB af fC S4 11 [2,0,0,1,1,0,3,1] [] [] [(0,.iface 168 (ptr q')),(3,.slice (some ⟨g',0,none⟩) (n+1) aj),(4,ptr lk)] (fun M=>M) 0 39 [true] [15] fun a5 w5 S5 dU jT kC rq=>?_
   rw[show pc prog 55 39 [true] [15]=pc prog 55 15 [] [] by kernel_rfl];have S6:=S5.fZ [(4,ptr lk),(3,.slice (some ⟨g',0,none⟩) (n+1) aj),(0,.iface 168 (ptr q'))] (by kernel_rfl);exact cL a5 w5 (dU.trans bD) (by omega) ⟨S6.env,S6.au.tail.tail,S6.sz⟩
theorem KG(F:aC prog main (DX Ok) Ψ)(hB:HB B Ok){cf:Frame}{cs:List Frame}{w:World}{C:List ah}(hC:Has C (oR 0 0 [.iface 217 (.agg #[.pointer (some ⟨1,121,none⟩)])] false)){ch:List iO}(hl:ch.length<1000000){e:Value}(he:rS C e ch)(aN:ch≠[])(hS:Sat Ok w C)(ey:B≤w.heap.size)(K:∀xR aj bA w',Sat Ok w' (vR xR 3 (fun j=>pX (ch.getD j ⟨0,0,0⟩)) ch.length aj 48::sR xR 3 bA ch.length aj::C)→Vc Ok xR ch.length aj→w.heap.size≤w'.heap.size→Ψ (G (cf.finish (.slice xR ch.length aj)) cs) w'):
 Ψ (G (Frame.enter prog 55 #[e] .normal) (cf::cs)) w:=by
 obtain⟨q,rfl⟩:∃q,e=.iface 168 (ptr q):=by
  cases eC:ch with
  |nil=>exact absurd eC aN
  |cons y ch=>rw[eC] at he;obtain⟨q,_,h,_⟩:=he;exact⟨q,h⟩
 refine iT f55 func55 _ rfl 29 (by kernel_rfl) hS fun bb a0 B1 hn af aJ aP S0 dH=>?_
 refine aD F hB af aP S0 15 [] [] [] [(4,ptr B1),(3,.slice none 0 0),(0,.iface 168 (ptr q))] (fun M=>bR (B1) [.pointer none]::(M)) 1 15 [] [] fun a1 w1 S1 aG ck cV cW=>?_
 have sC:Sat Ok w1 (bR B1 [.pointer none]::vR none 3 (fun j=>pX (ch.getD j ⟨0,0,0⟩)) 0 0 48::sR none 3 (fun _=>[]) 0 0::C):=((Sat.iV (Sat.iV S1.au (r:=sR none 3 (fun _=>[]) 0 0) rfl rfl) (r:=vR none 3 (fun j=>pX (ch.getD j ⟨0,0,0⟩)) 0 0 48) rfl rfl).perm (List.perm_middle (l₁:=[_,_])));have h0:0+ch.length=ch.length:=Nat.zero_add _;refine CS F hB af aJ hC (fun j=>ch.getD j ⟨0,0,0⟩) ch 0 _ (.pointer none) none 0 (fun _=>[]) (fun j _=>by rw[Nat.zero_add]) (by omega) he a1 w1 w1.heap.size aG (by omega) rfl ⟨S1.env,sC,rfl⟩ ⟨.inl ⟨rfl,rfl,rfl⟩,Nat.le_refl _,Nat.zero_le _,fun a h=>by cases h⟩ fun xR aj bA w2 h2 qU kX=>?_
 rw[h0] at h2 qU;rw[h0];exact K xR aj bA w2 h2 qU (by omega)
end
def Yr(C:List ah)(a:Value)(b:Bk):Prop:=(b.k=1∧a=.agg #[i6 b.n,.nilIface,.nilIface])∨(b.k=2∧∃q,a=.agg #[i6 0,.iface 168 (ptr q),.nilIface]∧rS C (.iface 168 (ptr q)) b.ch)∨(b.k=3∧a=.agg #[i6 0,.nilIface,.iface 166 (i6 b.n)])
theorem FK{k:PK}(hV:vU k.V):∃ty,BT k 0=.iface ty (ptr (k.lb 0))∧((ty=138∧lO k.V 0=146)∨(ty=141∧lO k.V 0=156)∨(ty=144∧lO k.V 0=165)):=by
 unfold BT lO
 by_cases e:0=k.V.nl
 ·rw[if_pos e,if_pos e];exact⟨138,rfl,.inl ⟨rfl,rfl⟩⟩
 ·rw[if_neg e,if_neg e]
  by_cases e1:(k.V.ly 0).k=1
  ·rw[if_pos e1,if_pos e1];exact⟨141,rfl,.inr (.inl ⟨rfl,rfl⟩)⟩
  ·rw[if_neg e1,if_neg e1];exact⟨144,rfl,.inr (.inr ⟨rfl,rfl⟩)⟩
theorem CC{V:Ev0}{Lf:LS}{m t j:Nat}{L:LS}{b:Bk}(h:Fin V Lf m (some (t,j,some b)) L):Ud b∧Fc V t L:=by
 cases m with
 |zero=>exact h.elim
 |succ m=>exact⟨(h.2.2.1 b rfl).1,h.1⟩
section
variable{γ:Type}{E:TE γ}{kk:PK}{Lf:LS}{t:Nat}
theorem TM(W:pU E kk Lf t){m:Nat}{p:γ}{s:PS}{w:World}{v:Value}{R:List ah}{c:Frame}{cs:List Frame}(C:Cn E kk t p s w v R)(hf:Fin kk.V Lf m (some (t,0,none)) s.l)(AN:m≤E.sj p)(K:∀m' p' s' w' v' X a b,m'<m→m'≤E.sj p'→Cn E kk t p' s' w' v' (X++R)→Fin kk.V Lf m' (some (t,0,some b)) s'.l→Yr X a b→E.Ψ p' (G (c.finish a) cs) w'):
 E.Ψ p (G (Frame.enter prog 52 #[BT kk 0,ptr (kk.T t)] .normal) (c::cs)) w:=by
 have F:=W.f p;have hB:=W.hB p;have vE:=C.bd;have hS:=C.au;have IH:=CJ W kk.V.nl 0 (Nat.zero_add _);obtain⟨ty,qV,UL⟩:=FK W.V;rw[qV];unfold jS at IH;generalize lO kk.V 0=gf at*;refine iT f52 func52 _ rfl 15 (by kernel_rfl) hS fun bb a0 B1 hn af aJ aP S0 dH=>?_
 refine aD F hB af aP S0 7 [] [] [] [(5,.func (Fn.func 64) #[] #[ptr B1]),(4,ptr B1),(0,.iface ty (ptr (kk.lb 0))),(1,ptr (kk.T t))] (fun M=>bR (B1) [i6 0,.nilIface,.nilIface]::(M)) 1 7 [] [] fun a1 w1 S1 aG ck cV cW=>?_
 refine dfz F hn aG 64 [ptr B1] (by kernel_rfl) (by kernel_rfl) (by kernel_rfl) S1 fun a2 S2 aW=>?_
 refine aD F hB af aW S2 5 [] [] [] [(8,ptr (kk.T t)),(7,.iface ty (ptr (kk.lb 0))),(4,ptr B1)] (fun M=>M) 1 13 [] [] fun a3 w3 S3 bD eu fS gD=>?_
 refine OZ F af bD 9 gf #[ptr (kk.lb 0),ptr (kk.T t)] (by rcases UL with ⟨rfl,rfl⟩|⟨rfl,rfl⟩|⟨rfl,rfl⟩<;>kernel_rfl) (by kernel_rfl) (by decide) S3 fun cf uV=>?_
 have C3:Cn E kk t p s w3 v ([bR B1 [i6 0,.nilIface,.nilIface]]++R):=⟨S3.au.perm (je (A:=pM s)),C.pv,C.qi,C.fl.cons rfl,C.jH.cons,by omega,C.gu,C.hk,C.ql⟩;refine IH m p s w3 v _ cf (c::cs) C3 hf AN fun m' p' s' w' v' X r b uR dr C' nP hr mA=>?_
 obtain⟨jM,GX⟩:=CC nP;have xh:=C'.bd;replace F:=W.f p';replace hB:=W.hB p';have hM:=C'.au.perm (jZ (A:=pM s'));have uP:∀w5,Sat (E.Ok p') w5 (pM s'++(jw (kk.T t) v' false::((X++R)++E.O p')))→w'.heap.size≤w5.heap.size→Cn E kk t p' s' w5 v' (X++R):=fun w5 h5 kC=>⟨h5,C'.pv,C'.qi,C'.fl.Ut,C.jH.app X,by omega,C'.gu,C'.hk,C'.ql⟩
 rcases hr with ⟨hb,rfl⟩|⟨hb,e,rfl,he⟩|⟨hb,rfl⟩
 ·refine uV.ret _ _ _ _ _ hM fun a5 B5 S5 dU jT=>?_
  refine aD F hB af dU S5 13 [0,0,0,2,0,0,0,3,0,0,0,3] [] [] [(4,ptr B1)] (fun M=>gH 0 (0,0) (i6 b.n) (M)) 0 27 [] [] fun a6 w6 S6 kF xX GO Mk=>?_
  refine Um F (by kernel_rfl) kF f64 func64 _ rfl (by kernel_rfl) 3 (by kernel_rfl) S6 fun a7 S7 lN=>?_
  refine EL F aL hB (by omega) lN 1 [] [] [] [(0,ptr B1)] (fun M=>M) 0 1 [] [] [] [] [] (by kernel_rfl) (by kernel_rfl) gl gl gl S7 fun a8 w8 S8 qZ ET JW P8=>?_
  refine Un F 1 (by kernel_rfl) (by kernel_rfl) (by decide) rfl S8 fun a9 S9 oC=>?_
  rw[qZ] at oC;refine EL F aL hB (by omega) oC 3 [(0,(0,2),true)] [] [] [] (fun M=>M) 0 5 [] [] [] [] [] (by kernel_rfl) (by kernel_rfl) gl gl gl S9 fun IJ rC rA kG wP yQ HI=>?_
  refine U7 F (by kernel_rfl) kG f64 func64 (by kernel_rfl) ?_;refine Pu F (a:=⟨a6.tmps,[]⟩) (N:=15) (E:=[(4,ptr B1)]) ⟨S6.env.sz,S6.env.val⟩ rA.au af aJ rfl [(0,(0,0),true),(0,(0,1),true),(0,(0,2),true)] (.agg #[i6 b.n,.nilIface,.nilIface]) (by kernel_rfl) (by kernel_rfl) ?_;exact K m' p' s' rC v' X _ b uR dr (uP rC rA.au.tail (by omega)) nP (.inl ⟨hb,rfl⟩)
 ·have aN:b.ch≠[]:=by
   rcases jM.2 with ⟨z,_⟩|⟨_,_,z⟩|⟨z,_⟩
   ·omega
   ·exact z
   ·omega
  obtain⟨q,rfl⟩:∃q,e=.iface 168 (ptr q):=by
   cases eC:b.ch with
   |nil=>exact absurd eC aN
   |cons y ch=>rw[eC] at he;obtain⟨q,_,h,_⟩:=he;exact⟨q,h⟩
  refine uV.ret _ _ _ _ _ hM fun a5 B5 S5 dU jT=>?_
  refine aD F hB af dU S5 13 [0,0,0,2,0,0,0,3,0,0,0,3] [] [] [(4,ptr B1)] (fun M=>gH 0 (0,1) (.iface 168 (ptr q)) (M)) 0 27 [] [] fun a6 w6 S6 kF xX GO Mk=>?_
  refine Um F (by kernel_rfl) kF f64 func64 _ rfl (by kernel_rfl) 3 (by kernel_rfl) S6 fun a7 S7 lN=>?_
  refine EL F aL hB (by omega) lN 1 [] [] [] [(0,ptr B1)] (fun M=>M) 0 1 [] [] [] [] [] (by kernel_rfl) (by kernel_rfl) gl gl gl S7 fun a8 w8 S8 qZ ET JW P8=>?_
  refine Un F 1 (by kernel_rfl) (by kernel_rfl) (by decide) rfl S8 fun a9 S9 oC=>?_
  rw[qZ] at oC;refine EL F aL hB (by omega) oC 3 [(0,(0,2),true)] [] [] [] (fun M=>M) 0 5 [] [] [] [] [] (by kernel_rfl) (by kernel_rfl) gl gl gl S9 fun IJ rC rA kG wP yQ HI=>?_
  refine U7 F (by kernel_rfl) kG f64 func64 (by kernel_rfl) ?_;refine Pu F (a:=⟨a6.tmps,[]⟩) (N:=15) (E:=[(4,ptr B1)]) ⟨S6.env.sz,S6.env.val⟩ rA.au af aJ rfl [(0,(0,0),true),(0,(0,1),true),(0,(0,2),true)] (.agg #[i6 0,.iface 168 (ptr q),.nilIface]) (by kernel_rfl) (by kernel_rfl) ?_;exact K m' p' s' rC v' X _ b uR dr (uP rC rA.au.tail (by omega)) nP (.inr (.inl ⟨hb,q,rfl,he⟩))
 ·obtain⟨a5,t5,rfl,dU,IE⟩:=uV.U3
  show E.Ψ p' (G ((bb.at a5 t5).raise (nW (.iface 166 (i6 b.n)))) (c::cs)) w'
  rw[raise_at hn.m];refine Zg F dU f64 func64 _ rfl (by kernel_rfl) 3 (by kernel_rfl) hM fun a7 B7 S7 lN ur=>?_
  refine EL F aL hB (by omega) lN 1 [] [] [] [(0,ptr B1)] (fun M=>M) 0 1 [] [] [] [] [] (by kernel_rfl) (by kernel_rfl) gl gl gl S7 fun a8 w8 S8 qZ ET JW P8=>?_
  refine Zi F (v:=.iface 166 (i6 b.n)) 1 (by kernel_rfl) (by kernel_rfl) (by decide) rfl S8 fun a9 S9 oC=>?_
  rw[qZ] at oC;refine EL F aL hB (by omega) oC 3 [(0,(0,2),true)] [] [] [] (fun M=>gH 0 (0,2) (.iface 166 (i6 b.n)) (M)) 0 5 [] [] [] [] [] (by kernel_rfl) (by kernel_rfl) gl gl gl S9 fun IJ rC rA kG wP yQ HI=>?_
  refine HQ F (b:=bb) (a':=⟨a5.tmps,[]⟩) (todo':=t5) (v:=.iface 166 (i6 b.n)) (by kernel_rfl) kG f64 func64 (by kernel_rfl) ?_;have hA:aO [(4,ptr B1)] 15 (⟨a5.tmps,[]⟩:Act):=⟨IE.sz,fun d u hl=>IE.val d u (fY [(4,ptr B1)] _ (by kernel_rfl) d u hl)⟩;refine Pu F hA rA.au af aJ rfl [(0,(0,0),true),(0,(0,1),true),(0,(0,2),true)] (.agg #[i6 0,.nilIface,.iface 166 (i6 b.n)]) (by kernel_rfl) (by kernel_rfl) ?_;exact K m' p' s' rC v' X _ b uR dr (uP rC rA.au.tail (by omega)) nP (.inr (.inr ⟨hb,rfl⟩))
end
theorem Sat.chain{Ok:Addr→Bool→Prop}{w:World}{sa:Option Addr}{cap:Nat}{ch:List iO}{M:List ah}(h:Sat Ok w (vR sa 3 (fun j=>pX (ch.getD j ⟨0,0,0⟩)) ch.length cap 48::M)){ca:Addr}(hs:sa=some ca):Sat Ok w (iL ca ch::M):=by
 subst hs;exact h.Jx 0 rfl (iL ca ch) (fun j hj=>⟨hj,rfl,rfl⟩) (fun z=>by cases z) rfl
theorem PS.Rc{s:PS}{k:PK}(h:s.k=k):∃s0:PS,s={s0 with k:=k}:=⟨s,by cases s;simp at h;subst h;rfl⟩
section
variable{γ:Type}{E:TE γ}{kk:PK}{Lf:LS}{t:Nat}
theorem O0(W:pU E kk Lf t){m:Nat}{p:γ}{s:PS}{w:World}{v:Value}{R:List ah}{c:Frame}{cs:List Frame}(C:Cn E kk t p s w v R)(hf:Fin kk.V Lf m (some (t,0,none)) s.l)(AN:m≤E.sj p)(K:∀m' p' s' w' v' X b ho hl hc,m'<m→m'≤E.sj p'→Cn E kk t p' s' w' v' (X++R)→Fin kk.V Lf m' (some (t,0,some b)) s'.l→gQ X (.slice ho hl hc) b.ch→E.Ψ p' (G (c.finish (.agg #[i6 s'.l.now,i6 b.k,i6 b.n,.slice ho hl hc])) cs) w'):
 E.Ψ p (G (Frame.enter prog 38 #[BT kk 0,ptr (kk.T t)] .normal) (c::cs)) w:=by
 have F:=W.f p;have hB:=W.hB p;have vE:=C.bd;have hS:=C.au;obtain⟨ty,qV,UL⟩:=FK W.V;rw[qV];refine iT f38 func38 _ rfl 34 (by kernel_rfl) hS fun bb a0 B1 hn af aJ aP S0 dH=>?_
 refine aD F hB af aP S0 8 [] [] [] [(7,ptr (kk.T t)),(6,.iface ty (ptr (kk.lb 0))),(4,ptr B1),(1,ptr (kk.T t))] (fun M=>bR (B1) [i6 0,i6 0,i6 0,.slice none 0 0]::(M)) 1 8 [] [] fun a1 w1 S1 aG ck cV cW=>?_
 refine OZ F af aG 8 52 #[.iface ty (ptr (kk.lb 0)),ptr (kk.T t)] (by kernel_rfl) (by kernel_rfl) (by decide) S1 fun kP bK=>?_
 rw[show(.iface ty (ptr (kk.lb 0)):Value)=BT kk 0 from qV.symm];have C1:Cn E kk t p s w1 v ([bR B1 [i6 0,i6 0,i6 0,.slice none 0 0]]++R):=⟨S1.au.perm (je (A:=pM s)),C.pv,C.qi,C.fl.cons rfl,C.jH.cons,by omega,C.gu,C.hk,C.ql⟩;refine TM W C1 hf AN fun m' p' s' w' v' X a b uR dr C' nP ha=>?_
 obtain⟨s',rfl⟩:=PS.Rc C'.hk;obtain⟨jM,GX⟩:=CC nP;have xh:=C'.bd;replace F:=W.f p';replace hB:=W.hB p';have hM:=(C'.au.perm (jZ (A:=pM {s' with k:=kk}))).get ((((((C.jH.qb t W.tn).app X).pre (E.O p')).cons).app (pM {s' with k:=kk})).cons);have uP:∀w5,Sat (E.Ok p') w5 (pM {s' with k:=kk}++(jw (kk.T t) v' false::((X++R)++E.O p')))→w'.heap.size≤w5.heap.size→Cn E kk t p' {s' with k:=kk} w5 v' (X++R):=fun w5 h5 kC=>⟨h5,C'.pv,C'.qi,C'.fl.Ut,C.jH.app X,by omega,C'.gu,C'.hk,C'.ql⟩
 have eC:b.k≠2→b.ch=[]:=fun hz=>by
  rcases jM.2 with ⟨_,z⟩|⟨z,_⟩|⟨_,z⟩
  ·exact z
  ·exact absurd z hz
  ·exact z
 rcases ha with ⟨hb,rfl⟩|⟨hb,q,rfl,he⟩|⟨hb,rfl⟩
 ·refine bK.ret _ _ _ _ _ hM fun a2 B2 S2 aW dV=>?_
  refine aD F hB af aW S2 28 [0,0,0,3,0,0,2,1,0,0,1,1,1,0,0,1,3,0,0,1,0,0,0,1,2,0,0,4] [1,1] [4] [(4,ptr B1)] (fun M=>bR (B2) [i6 b.n,.nilIface,.nilIface]::(gH 1 (0,2) (i6 b.n) (gH 1 (0,1) (i6 1) (gH 1 (0,0) (i6 s'.l.now) (M))))) 1 37 [false,false] [4] fun a3 w3 S3 bD eu fS gD=>?_
  refine dA F S3 af aJ bD [2,0,0,4] (.agg #[i6 s'.l.now,i6 1,i6 b.n,.slice none 0 0]) ?_;have h:=K m' p' _ w3 v' X b none 0 0 uR dr (uP w3 S3.au.tail.tail.tail (by omega)) nP (.inl ⟨rfl,eC (by omega)⟩);rw[hb] at h;exact h
 ·refine bK.ret _ _ _ _ _ hM fun a2 B2 S2 aW dV=>?_
  refine aD F hB af aW S2 23 [0,0,0,3,0,0,2,1,0,0,1,1,1,0,0,1,3,0,0,1,0,0,1,1] [1,3] [4] [(26,.iface 168 (ptr q)),(24,i6 s'.l.now),(4,ptr B1)] (fun M=>bR (B2) [i6 0,.iface 168 (ptr q),.nilIface]::(M)) 1 32 [false,true] [4] fun a3 w3 S3 bD eu fS gD=>?_
  refine fT F af bD S3 27 55 #[.iface 168 (ptr q)] fun vO ij=>?_
  have aN:b.ch≠[]:=by
   rcases jM.2 with ⟨z,_⟩|⟨_,_,z⟩|⟨z,_⟩
   ·omega
   ·exact z
   ·omega
  have rO:b.n=0:=by
   rcases jM.2 with ⟨z,_⟩|⟨_,z,_⟩|⟨z,_⟩
   ·omega
   ·exact z
   ·omega
  refine KG F hB ((((((C.jH.err.app X).pre (E.O p')).cons).app (pM {s' with k:=kk})).cons).cons.cons) jM.1 (he.up fun r hr=>(((((hr.pre R).pre (E.O p')).cons).app (pM {s' with k:=kk})).cons).cons.cons) aN S3.au (by omega) fun xR aj bA w4 h4 NO Ay=>ij _ _ _ h4 fun a4 B4 S4 fC oJ=>?_
  refine aD F hB af fC S4 3 [4,0,0,4] [] [] [(4,ptr B1)] (fun M=>gH 4 (0,3) (.slice xR (List.length b.ch) aj) (gH 4 (0,1) (i6 2) (gH 4 (0,0) (i6 s'.l.now) (M)))) 0 36 [false,true] [4] fun a5 w5 S5 dU jT kC rq=>?_
  refine dA F S5 af aJ dU [4,0,0,4] (.agg #[i6 s'.l.now,i6 2,i6 0,.slice xR (List.length b.ch) aj]) ?_
  obtain⟨ca,uW⟩:∃ca,xR=some ca:=by
   rcases NO.row with ⟨_,z,_⟩|⟨g,z,_⟩
   ·exact absurd (List.length_eq_zero_iff.1 z) aN
   ·exact⟨_,z⟩
  have h6:Sat (E.Ok p') w5 (iL ca b.ch::(pM {s' with k:=kk}++(jw (kk.T t) v' false::((X++R)++E.O p')))):=(S5.au.chain uW).sub (.cons_cons _ (.cons _ (.cons _ (.cons _ (.cons _ (List.Sublist.refl _))))));have uX:=uP w5 h6.tail (by omega);have h:=K m' p' _ w5 v' (iL ca b.ch::X) b xR b.ch.length aj uR dr ⟨h6.perm (je (A:=pM {s' with k:=kk})),uX.pv,uX.qi,uX.fl.cons rfl,uX.jH.cons,uX.bd,uX.gu,uX.hk,uX.ql⟩ nP (.inr ⟨ca,aj,0,by rw[uW],rfl⟩);rw[hb,rO] at h;exact h
 ·refine bK.ret _ _ _ _ _ hM fun a2 B2 S2 aW dV=>?_
  refine aD F hB af aW S2 39 [0,0,0,3,0,0,2,1,1,0,0,1,3,0,0,1,0,0,2,1,2,0,0,4] [3] [4] [(4,ptr B1)] (fun M=>bR (B2) [i6 0,.nilIface,.iface 166 (i6 b.n)]::(gH 1 (0,2) (i6 b.n) (gH 1 (0,1) (i6 3) (gH 1 (0,0) (i6 s'.l.now) (M))))) 1 28 [true] [4] fun a3 w3 S3 bD eu fS gD=>?_
  refine dA F S3 af aJ bD [2,0,0,4] (.agg #[i6 s'.l.now,i6 3,i6 b.n,.slice none 0 0]) ?_;have h:=K m' p' _ w3 v' X b none 0 0 uR dr (uP w3 S3.au.tail.tail.tail (by omega)) nP (.inl ⟨rfl,eC (by omega)⟩);rw[hb] at h;exact h
end
theorem Kv{V:Ev0}{Lf:LS}{m t:Nat}{L:LS}{b:Bk}(h:Fin V Lf m (some (t,0,some b)) L):∃m0,m=m0+1∧Fc V t L∧Fin V Lf m0 none (L.end_ t b):=by
 cases m with
 |zero=>exact h.elim
 |succ m=>
  obtain⟨h1,h2,h3,h4⟩:=h;simp only[LS.step,if_true] at h4;exact⟨m,rfl,h1,h4⟩
abbrev PS.fin(s:PS)(t:Nat)(b:Bk)(h:Value):PS:={s with oh:=upd s.oh t h,l:=s.l.end_ t b}
section
variable{γ:Type}{E:TE γ}{kk:PK}{Lf:LS}{t:Nat}
theorem MO(W:pU E kk Lf t){m:Nat}{p:γ}{s:PS}{w:World}{v:Value}{R:List ah}{c:Frame}{cs:List Frame}{bl bo bi:Nat}(C:Cn E kk t p s w v R)(hf:Fin kk.V Lf m (some (t,0,none)) s.l)(AN:m≤E.sj p)(h1:Has R (oR bo 0 [.slice (some ⟨kk.O,0,none⟩) kk.V.nc kk.V.nc] false))(h2:Has R (oR bi 0 [i6 t] false))(h3:Has R (oR bl 0 [BT kk 0] false))(K:∀m' p' (s':PS) w' v' X (b:Bk) ho hl hc,m'<m→m'≤E.sj p'→Cn E kk t p' (s'.fin t b (.slice ho hl hc)) w' v' (X++R)→Fin kk.V Lf m' none (s'.l.end_ t b)→(s'.l.tk t).c=(t:Int)→gQ X (.slice ho hl hc) b.ch→E.Ψ p' (G (c.finish (.tuple #[])) cs) w'):
 E.Ψ p (G (Frame.enter prog 37 #[ptr (kk.T t),ptr bl,ptr bo,ptr bi] .normal) (c::cs)) w:=by
 have F:=W.f p;have hB:=W.hB p;have vE:=C.bd;have hS:=C.au
 have ux:∀p' s' w' v' X,Cn E kk t p' s' w' v' (X++R)→Sat (E.Ok p') w' [oR bo 0 [.slice (some ⟨kk.O,0,none⟩) kk.V.nc kk.V.nc] false,oR bi 0 [i6 t] false,oR bl 0 [BT kk 0] false]:=by
  intro p' s' w' v' X C';refine C'.au.QA fun r hr=>?_
  simp only[List.mem_cons,List.not_mem_nil,or_false] at hr;rcases hr with rfl|rfl|rfl
  ·exact Has.in h1
  ·exact Has.in h2
  ·exact Has.in h3
 refine iT f37 func37 _ rfl 11 (by kernel_rfl) hS fun bb a0 B1 hn af aJ aP S0 dH=>?_
 refine bkC W.f aL W.hB af 5 4 [oR bo 0 [.slice (some ⟨kk.O,0,none⟩) kk.V.nc kk.V.nc] false,oR bi 0 [i6 t] false,oR bl 0 [BT kk 0] false] [(0,(0,0),true),(1,(0,0),true),(2,(0,0),true)] [(7,BT kk 0),(8,ptr (kk.T t))] 9 38 #[BT kk 0,ptr (kk.T t)] (by kernel_rfl) (by kernel_rfl) (by kernel_rfl) (by kernel_rfl) (by kernel_rfl) S0 (ux p s w v [] C) vE fun cf w1 sC ck hR1=>?_
 refine O0 W {C with au:=sC,bd:=by omega} hf AN fun m' p' s' w' v' X b ho hl hc uR dr C' nP eC=>?_
 obtain⟨s',rfl⟩:=PS.Rc C'.hk;obtain⟨m1,rfl,GX,gX⟩:=Kv nP;have xh:=C'.bd;replace F:=W.f p';replace hB:=W.hB p';have V5:=W.tn;refine hR1.ret p' _ w' [] [(5,.slice (some ⟨kk.O,0,none⟩) kk.V.nc kk.V.nc),(6,i6 t),(9,.agg #[i6 s'.l.now,i6 b.k,i6 b.n,.slice ho hl hc])] _ xh (ux p' _ w' v' X C') C'.au (by kernel_rfl) (by kernel_rfl) fun a2 w2 B2 S2 aW dV kX=>?_
 rw[aP] at aW;refine cJ F hB af aW S2 3 [6,t,0,104] [2] [] [] (fun M=>gH 6 (t,3) (.slice ho hl hc) (gH 6 (t,2) (i6 b.n) (gH 6 (t,1) (i6 b.k) (gH 6 (t,0) (i6 s'.l.now) (M))))) 0 4 [] [5] [] [((↑t:Int),kk.V.nc)] [(4,(t,kk.V.nc))] fun a3 w3 S3 bD eu fS gD=>?_
 refine dA F S3 af aJ bD [] (.tuple #[]) ?_;have en:(s'.l.tk t).c.toNat=t:=by rw[GX.tc];rfl
 refine K m1 p' {s' with k:=kk} w3 v' X b ho hl hc (by omega) (by omega) ⟨S3.au.re 6 rfl rfl _ fun j _ f hf=>?_,⟨C'.pv.jr,C'.pv.en,C'.pv.eo⟩,⟨C'.qi.lt,C'.qi.all,C'.qi.DT,C'.qi.ws⟩,C'.fl,C'.jH,by omega,C'.gu.trans ⟨rfl,rfl,rfl,rfl,rfl,rfl,rfl,rfl,rfl,fun i hi=>?_,fun _ _=>rfl,fun i hi=>⟨?_,?_⟩⟩,rfl,C'.ql⟩ gX GX.tc eC
 ·refine Eq.trans ?_ (yj (C:=zF) (g:=fun j=>(s'.l.ou j,s'.oh j)) (r:=(⟨s'.l.now,b⟩,.slice ho hl hc)) rfl rfl j f hf)
  show(zF (upd s'.l.ou (s'.l.tk t).c.toNat ⟨s'.l.now,b⟩ j,upd s'.oh t (.slice ho hl hc) j)).getD f undef=_
  rw[en];unfold upd;by_cases e:j=t<;>simp[e]
 ·show upd _ _ _ i=_;simp[upd,hi]
 ·show upd s'.l.ou (s'.l.tk t).c.toNat _ i=_;rw[en];simp[upd,hi]
 ·show upd _ _ _ i=_;simp[upd,hi]
end
end Go.Proofs.YtobagnjnbmgidaaGreatDoor
