import Derived.Test.YtobagnjnbmgidaaGreatDoorD0
import Derived.Test.YtobagnjnbmgidaaGreatDoorP14
set_option linter.all false
set_option maxHeartbeats 8000000
set_option maxRecDepth 100000
namespace Go.Proofs.YtobagnjnbmgidaaGreatDoor
section
open Go.Conc Go.RowKit Tryz
def T4(c:Frame)(cs:List Frame)(g:Goroutine):Prop:=∀Φ,CF prog false Φ→Φ (G (c.finish (.int .i64 1)) cs)→Φ (Go.Conc.served g (.int .i64 1))
def lY(aX:Nat)(c:Frame)(cs:List Frame):Seat:=Seat.one aX (.int .i64 0) false (T4 c cs)
theorem mP{aX c':Nat}{c:Frame}{cs:List Frame}(h:(lY aX c cs).has c'):c'=aX:=Seat.one_has.1 h
def Yh(T aX x:Nat)(c:Frame)(cs:List Frame)(a:Goroutine):Prop:=∀(K:World→Prop)(Still:Loc→Prop)(B:Nat)(w:World),(∀w,K w→w.cell? ⟨x,0,none⟩=some (.pointer (some ⟨T,0,none⟩))∧w.cell? ⟨T,3,none⟩=some (.chan (some aX)))→(Still (.cell ⟨x,0,none⟩)∧x<B)→(Still (.cell ⟨T,3,none⟩)∧T<B)→
 ∃n,Goes prog false (RK K) (DS Still B) (fun g _=>∃g₂,AtIn prog false K Still B (lY aX c cs) g g₂) n a w
def T5(bU T aX x:Nat)(c:Frame)(cs:List Frame)(a:Goroutine):Prop:=
 a.status=.running∧(∀w,stepG prog false a w=.comm a #[scase bU (.agg #[]) (.tuple #[])] true .send w #[])∧Yh T aX x c cs (Go.Conc.served a undef)
theorem HO{Ok:Addr→Bool→Prop}{Ψ:Goroutine→World→Prop}(F:aC prog false (DX Ok) Ψ)(A T bU aX x:Nat)(c:Frame)(cs:List Frame)(w0:World)(gT:w0.cell? ⟨x,0,none⟩=some (.pointer (some ⟨T,0,none⟩)))(LH:w0.cell? ⟨T,0,none⟩=some (.pointer (some ⟨A,0,none⟩)))(ha3:w0.cell? ⟨A,3,none⟩=some (.chan (some bU)))(o1:Ok ⟨x,0,none⟩ false)(o2:Ok ⟨T,0,none⟩ false)(o3:Ok ⟨A,3,none⟩ false)(hc:∀a,T5 bU T aX x c cs a→Ψ a w0):Ψ (G (Frame.enter prog 153 #[.pointer (some ⟨x,0,none⟩)] .normal) (c::cs)) w0:=by
 rw[enter_at _ func153 rfl];simp only[ntmps153,mV,Nat.reduceAdd,Nat.reduceSub];refine F.bh ?_;refine F.ak ?_;try walk_nrm
 refine F.cI ?_;iterate 3 (refine F.ak ?_;try walk_nrm)
 refine F.ol rfl rfl rfl fun d K h=>?_;go_simp;refine h _ (fun e m=>?_) ?_;simp[go_sem, *] at m;subst m;exact ff (w:=w0) (by assumption) (by first|assumption|(apply b8<;>dsimp only<;>omega));clear h K d;try walk_nrm
 iterate 2 (refine F.ak ?_;try walk_nrm)
 refine F.ol rfl rfl rfl fun d K h=>?_;go_simp;refine h _ (fun e m=>?_) ?_;simp[go_sem, *] at m;subst m;exact ff (w:=w0) (by assumption) (by first|assumption|(apply b8<;>dsimp only<;>omega));clear h K d;try walk_nrm
 iterate 2 (refine F.ak ?_;try walk_nrm)
 refine F.ol rfl rfl rfl fun d K h=>?_;go_simp;refine h _ (fun e m=>?_) ?_;simp[go_sem, *] at m;subst m;exact ff (w:=w0) (by assumption) (by first|assumption|(apply b8<;>dsimp only<;>omega));clear h K d;try walk_nrm
 refine F.ak ?_;try walk_nrm
 refine hc _ ⟨rfl,fun w=>?_,fun K Still B w hK sx sT=>?_⟩
 ·rw[stepG_comm (cases:=#[scase bU (.agg #[]) (.tuple #[])]) (blocking:=true) (shape:=.send) (w':=w) rfl rfl (by decide) (by simp[execOp,scase,Act.eval])]
  rw[listed_nil (by simp[go_sem,execOp,Act.eval])]
 clear F;have F:=rX (P:=prog) (K:=K) (Still:=Still) (B:=B) false (lY aX c cs) w;rw[served_fr,Frame.finish_at];try walk_nrm
 have f0:=fun w h=>(hK w h).1
 have f3:=fun w h=>(hK w h).2
 refine F.cI ?_;iterate 3 (refine F.ak ?_;try walk_nrm)
 apply F.op rfl rfl (by decide)
 ·intro w hw e he
  have jm:=f0 w hw;simp[go_sem,jm] at he;subst he;exact⟨_,rfl,sx.1,sx.2⟩
 ·intro w hw
  have jm:=f0 w hw;go_simp
  first|exact⟨rfl,rfl⟩|exact rfl
 try walk_nrm
 iterate 2 (refine F.ak ?_;try walk_nrm)
 apply F.op rfl rfl (by decide)
 ·intro w hw e he
  have jm:=f3 w hw;simp[go_sem,jm] at he;subst he;exact⟨_,rfl,sT.1,sT.2⟩
 ·intro w hw
  have jm:=f3 w hw;go_simp
  first|exact⟨rfl,rfl⟩|exact rfl
 try walk_nrm
 refine⟨0,fun w₁ r=>⟨_,rfl,rfl,rfl,rfl,?_,#[],by simp,fun w hw=>?_⟩⟩
 ·clear F
  intro Φ F ht;rw[served_fr,Frame.finish_at];try walk_nrm
  refine F.ak ?_;try walk_nrm
  refine F.re ?_;refine F.ctl (fun _=>stepG_ret') ?_;refine F.aF rfl rfl func153 (resultsC_tmp (by rfl) _) ?_;exact ht
 ·rw[stepG_comm (cases:=#[rcase aX (.int .i64 0)]) (blocking:=true) (shape:=.recv false) (w':=w) rfl rfl (by decide) (by simp[go_sem,rcase])]
  rw[listed_nil (by simp[go_sem])]
  rfl
theorem Kp.chan{w:World}{c k x y:Nat}{cap:Nat}{buf:Array Value}{cl tm:Bool}(hc:w.heap[c]? =some (.chan 0 #[] false k k false)):Kp [] w (w.setChan c cap buf cl x y tm):=by
 have aN:∀(a:Addr)(v:Value),w.cell? a=some v→c≠a.block:=fun a v h e=>by subst e;simp[World.cell?,hc] at h
 exact⟨Nat.le_of_eq (by simp[World.setChan]),fun a v _ _ h=>((iY (aN a v h) ..).1).trans h,fun a v _ _ h=>(iY (aN a v h) ..).2,fun b c' t f _ _ h=>by
  by_cases e:c=b
  ·subst e;rw[hc] at h;cases h
  ·rw[heap_setChan_ne w _ _ _ _ _ _ e];exact h⟩
section
variable{w:World}{st:List (Addr×Value)}
theorem DY{z:Addr}{v:Value}{o:Obj}{cap k:Nat}:nq z v o=.chan cap #[] false k k false↔o=.chan cap #[] false k k false:=by
 cases o<;>simp[nq]
theorem pP{z:Addr}{v:Value}{c cap k:Nat}:(w.setCell z v).heap[c]? =some (.chan cap #[] false k k false)↔w.heap[c]? =some (.chan cap #[] false k k false):=by
 rw[heap_set]
 split
 ·cases w.heap[c]? with
  |none=>simp
  |some o=>simp[DY]
 ·exact Iff.rfl
theorem xF{z:Addr}{v:Value}(hs:z.spot=none):(∃u,(w.setCell z v).cell? z=some u)↔∃u,w.cell? z=some u:=by
 constructor
 ·rintro ⟨u,hu⟩
  unfold World.cell? at hu;rw[heap_set,if_pos rfl] at hu;unfold World.cell?;cases hb:w.heap[z.block]? with
  |none=>rw[hb] at hu;simp at hu
  |some o=>
   rw[hb] at hu;cases o<;>simp[nq,hs] at hu ⊢
   case cells c el f=>
    rw[Array.getElem?_setIfInBounds] at hu
    simp at hu
    exact⟨c[z.off]'(hu.1),Array.getElem?_eq_getElem hu.1⟩
 ·rintro ⟨u,hu⟩
  exact⟨v,World.cell?_setCell_same _ _ _ hu⟩
theorem tI{cc:List Nat}{z:Addr}{v:Value}(hz:∀p∈st,p.1≠z):KL st cc (w.setCell z v)↔KL st cc w:=by
 constructor
 ·rintro ⟨h1,h2⟩
  exact⟨fun p hp=>(World.cell?_setCell_other _ _ _ _ (hz p hp).symm).symm.trans (h1 p hp),fun c hc=>by obtain⟨k,hk⟩:=h2 c hc;exact⟨k,pP.1 hk⟩⟩
 ·rintro ⟨h1,h2⟩
  exact⟨fun p hp=>(World.cell?_setCell_other _ _ _ _ (hz p hp).symm).trans (h1 p hp),fun c hc=>by obtain⟨k,hk⟩:=h2 c hc;exact⟨k,pP.2 hk⟩⟩
theorem yM{wI:World}{z:Addr}{v:Value}(hz:wI.heap.size≤z.block):Old wI (w.setCell z v)↔Old wI w:=by
 constructor
 ·rintro ⟨h1,h2,h3,h4,h5⟩
  refine⟨h1,h2,h3,by simpa [World.setCell] using h4,fun k hk=>?_⟩;have:=h5 k hk;rw[heap_set,if_neg (by omega)] at this;exact this
 ·exact BP hz
theorem qe{l:List Nat}{b o:Nat}(h5:o≠5)(h6:o≠6):¬jQ l (.cell ⟨b,o,none⟩):=fun⟨A,_,z⟩=>by rcases z with z|z<;>simp at z<;>omega
theorem qd(w:World)(c cap:Nat)(buf:Array Value)(cl:Bool)(x y:Nat)(tm:Bool):(w.setChan c cap buf cl x y tm).heap.size=w.heap.size:=by simp[World.setChan]
end
def KD(wI:World)(A:Nat)(cc:List Nat)(st:List (Addr×Value))(w:World):Prop:=Old wI w∧KL st cc w∧(∃v,w.cell? ⟨A,5,none⟩=some v)∧w.frozen? ⟨A,5,none⟩=false∧∃v,w.cell? ⟨A,6,none⟩=some v
def QD(A:Nat)(w:World):Prop:=w.cell? ⟨A,6,none⟩=some (.int .u32 0)∧w.frozen? ⟨A,6,none⟩=false
section
variable{wI:World}{A:Nat}{l:List Nat}{cc:List Nat}{st:List (Addr×Value)}{w w':World}{es:Array Event}
theorem Lr:∀w d,QD A w→QD A (w.at d):=fun _ _ h=>h
theorem Rb(hA:A∈l)(D:DX (cQ wI.heap.size l st) w w' es)(h:KD wI A cc st w):KD wI A cc st w':=by
 have n5:¬cQ wI.heap.size l st ⟨A,5,none⟩ true:=fun o=>o.1 ⟨A,hA,.inl rfl⟩
 have n6:¬cQ wI.heap.size l st ⟨A,6,none⟩ true:=fun o=>o.1 ⟨A,hA,.inr rfl⟩
 obtain⟨h1,h2,⟨v,h3⟩,h4,v6,h5⟩:=h;obtain⟨y1,y2⟩:=D.cell _ n5 (aq h3);obtain⟨y3,y4⟩:=D.cell _ n6 (aq h5);exact⟨Am (fun a o=>(o.2 rfl).1) _ _ _ D h1,LC (fun p hp o=>(o.2 rfl).2 ⟨p,hp,rfl⟩) _ _ _ D h2,⟨v,y1.trans h3⟩,y2.trans h4,v6,y3.trans h5⟩
theorem Lq(hA:A∈l)(D:DX (cQ wI.heap.size l st) w w' es)(h:QD A w):QD A w':=by
 have n6:¬cQ wI.heap.size l st ⟨A,6,none⟩ true:=fun o=>o.1 ⟨A,hA,.inr rfl⟩
 obtain⟨y3,y4⟩:=D.cell _ n6 (aq h.1);exact⟨y3.trans h.1,y4.trans h.2⟩
theorem nM(hA:A∈l)(hI:wI.heap.size≤A)(hz:∀p∈st,p.1≠⟨A,5,none⟩):GK (KD wI A cc st) (jQ l) (iF A):=by
 refine⟨fun w d h=>h,fun w v=>?_,fun w h=>?_,⟨A,hA,.inl rfl⟩⟩
 ·show KD wI A cc st (w.setCell ⟨A,5,none⟩ v)↔_
  unfold KD;rw[yM (z:=⟨A,5,none⟩) hI,tI (z:=⟨A,5,none⟩) hz,xF (z:=⟨A,5,none⟩) rfl,World.frozen?_setCell];rw[World.cell?_setCell_other _ _ _ _ (by simp)]
 ·refine⟨?_,h.2.2.1,h.2.2.2.1⟩
  obtain⟨v,hv⟩:=h.2.2.1
  show iH w A
  unfold World.cell? at hv;unfold iH
  split at hv
  ·exact⟨_,_,_,by assumption⟩
  ·cases hv
theorem M6(hA:A∈l):Ik (DX (cQ wI.heap.size l st)) ⟨A,5,none⟩:=fun w w' es D e he hl=>by
 rcases D.ev e he with ⟨a,e1,_,e3,_⟩|rfl
 ·rw[e1] at hl
  cases hl
  exact e3.1 ⟨A,hA,.inl rfl⟩
 ·cases hl
theorem SZ{Post:Value→World→Prop}(hA:A∈l)(hI:wI.heap.size≤A){Inb:Nat→Option Seat}{St:Nat→Loc→Prop}{L nb n dl:Nat}(gS:nb≤9)(hz:∀p∈st,p.1≠⟨A,5,none⟩)(hS:∀g x,(Inb g).isSome→St g x→xL st x)(h:Nat):
 aC prog (h==0) (DX (cQ wI.heap.size l st)) (gG prog Post (KD wI A cc st) (QD A) (jQ l) St Inb (iF A) L nb h n dl):=
 KP (nM hA hI hz) gS Lr (fun w w' es D=>⟨HP (fun ad ⟨g,h1,h2⟩ o=>(o.2 rfl).2 (hS g _ h1 h2)) (fun ad wr z o=>o.1 z) (fun w w' es D=>Rb hA D) w w' es D,Lq hA D⟩) DX.idle xE (M6 hA)
theorem wO{c k:Nat}(hI:wI.heap.size≤c)(hc:c∈cc)(h:KD wI A cc st w):KD wI A cc st (w.setChan c 0 #[] false k k false):=by
 obtain⟨h1,h2,⟨v,h3⟩,h4,v6,h5⟩:=h;obtain⟨k0,sB⟩:=h2.2 c hc;have aN:∀(a:Addr)(v:Value),w.cell? a=some v→c≠a.block:=fun a v h e=>by subst e;simp[World.cell?,sB] at h
 exact⟨Gn hI h1,JS (fun y hy=>aN _ _ (h2.1 y hy)) hc h2,⟨v,((iY (aN _ _ h3) ..).1).trans h3⟩,((iY (aN _ _ h3) ..).2).trans h4,v6,((iY (aN _ _ h5) ..).1).trans h5⟩
theorem Gb{C:List Addr}(h:QD A w)(k:Kp [] w w' C)(hC:(⟨A,6,none⟩:Addr)∉C):QD A w':=⟨k.cellC _ _ (by simp) hC h.1,(k.jq _ _ (by simp) hC h.1).trans h.2⟩
end
end
section
open Go.Conc Go.RowKit
section
variable{Ok TY:Addr→Bool→Prop}{w w':World}{M:List ah}
theorem ga{M:List ah}{i:Nat}{r:ah}(h:nth M i=some r):r∈M:=by rw[fW] at h;exact List.mem_of_getElem? h
theorem kV{M:List ah}{r:ah}(h:r∈M):∃i,nth M i=some r:=by
 obtain⟨i,hi⟩:=List.getElem?_of_mem h;exact⟨i,by rw[fW];exact hi⟩
theorem Sat.kp{C:List Addr}(h:Sat Ok w M)(k:Kp [] w w' C)(hC:∀r∈M,∀j,r.has j→r.ad j∉C)(hR:∀r∈M,∀g e n,r.row=some (g,e,n)→∀x∈C,x.block≠g):Sat Ok w' M:=by
 refine⟨fun i r hi j hj=>?_,fun i r hi j hj=>?_,h.sep,fun i r hi g e n hg=>?_⟩
 ·exact k.cellC _ _ (by simp) (hC r (ga hi) j hj) (h.val i r hi j hj)
 ·have:=h.ok i r hi j hj
  exact⟨this.1,fun z=>⟨(this.2 z).1,(k.jq _ _ (by simp) (hC r (ga hi) j hj) (h.val i r hi j hj)).trans (this.2 z).2⟩⟩
 ·obtain⟨h1,h2,cur,h3,h4⟩:=h.row i r hi g e n hg
  exact⟨h1,h2,cur,k.blk g cur e (0,0) (by simp) (hR r (ga hi) g e n hg) h3,h4⟩
theorem Sat.JR(h:Sat Ok w M)(k:Kp [] w w' []):Sat Ok w' M:=h.kp k (fun _ _ _ _=>by simp) (fun _ _ _ _ _ _ x hx=>by cases hx)
theorem Sat.Px(h:Sat Ok w M)(hr:∀r∈M,∀j,r.has j→Ok (r.ad j) false→TY (r.ad j) false)(hw:∀r∈M,r.wr=true→∀j,r.has j→Ok (r.ad j) true→TY (r.ad j) true):Sat TY w M:=by
 refine⟨h.val,fun i r hi j hj=>?_,h.sep,h.row⟩;have:=h.ok i r hi j hj;exact⟨hr r (ga hi) j hj this.1,fun z=>⟨hw r (ga hi) z j hj (this.2 z).1,(this.2 z).2⟩⟩
theorem Sat.dj(h:Sat Ok w M){r r':ah}(hr:r∈M)(lD:r'∈M)(hw:r.wr=true)(yR:r'.wr=false){j j':Ix}(hj:r.has j)(bP:r'.has j'):r.ad j≠r'.ad j':=fun e=>by
 obtain⟨i,hi⟩:=kV hr;obtain⟨i',dJ⟩:=kV lD;obtain⟨rfl,_⟩:=h.sep i r i' r' hi dJ hw j j' hj bP e;rw[hi] at dJ;cases dJ;rw[hw] at yR;cases yR
theorem Sat.still{N:Nat}{l:List Nat}{st:List (Addr×Value)}{b:Nat}{v u:Value}{vs:List Value}(h:Sat (cQ N l st) w M)(hr:oR b 0 (v::vs) false∈M):Sat (cQ N l ((⟨b,0,none⟩,u)::st)) w M:=by
 refine h.Px (fun r _ j _ o=>⟨o.1,fun z=>by cases z⟩) (fun r hm hw j hj o=>⟨o.1,fun _=>⟨(o.2 rfl).1,fun⟨p,hp,e⟩=>?_⟩⟩);rcases List.mem_cons.1 hp with rfl|hp
 ·simp only[Loc.cell.injEq] at e
  exact h.dj hm hr hw rfl hj (j':=(0,0)) ⟨Nat.zero_lt_one,by simp⟩ e
 ·exact(o.2 rfl).2 ⟨p,hp,e⟩
theorem PV.still{N:Nat}{l:List Nat}{st:List (Addr×Value)}{b:Nat}{v u:Value}{vs:List Value}{s:PS}{C:List ah}{es:List (Int×Value)}(P:PV (cQ N l st) s es)(h:Sat (cQ N l st) w (pM s++C))(hr:oR b 0 (v::vs) false∈pM s++C):PV (cQ N l ((⟨b,0,none⟩,u)::st)) s es:=by
 have up:∀(a:Addr)(wr:Bool),a.block≠b→cQ N l st a wr→cQ N l ((⟨b,0,none⟩,u)::st) a wr:=fun a wr hb o=>⟨o.1,fun z=>⟨(o.2 z).1,fun⟨p,hp,e⟩=>by
  rcases List.mem_cons.1 hp with rfl|hp
  ·simp only[Loc.cell.injEq] at e;exact hb (by rw[e])
  ·exact(o.2 z).2 ⟨p,hp,e⟩⟩⟩
 refine⟨⟨P.jr.row,P.jr.le,P.jr.mx,fun a ha ad wr hb=>?_⟩,P.en,fun hc=>⟨(P.eo hc).1,fun a wr hb=>?_⟩⟩
 ·refine up ad wr (fun z=>?_) (P.jr.Gq a ha ad wr hb)
  rcases P.jr.row with ⟨z1,_⟩|⟨g,z1,z2⟩
  ·rw[z1] at ha;cases ha
  ·have hv:vR s.ea 5 (fun j=>zo (s.l.ev j)) s.l.el s.ec 55∈pM s++C:=List.mem_append_left _ (by simp[pM])
   refine h.dj hv hr rfl rfl (j:=(0,0)) (j':=(0,0)) ⟨z2,(by decide:0<5)⟩ ⟨Nat.zero_lt_one,by simp⟩ ?_;rw[z1] at ha;cases ha
   show(((s.ea).getD ⟨0,0,none⟩).add (0*5)).add 0=(⟨b,0+0,none⟩:Addr)
   rw[z1]
   show((⟨g,0,none⟩:Addr).add (0*5)).add 0=_
   rw[add_add];simp only at hb;rw[←z,hb]
 ·refine up a wr (fun z=>?_) ((P.eo hc).2 a wr hb)
  have hn:0<s.eb.n:=by
   rcases P.en.2 with ⟨_,_,z3⟩|⟨_,_,_,_,_,_,z,_⟩
   ·omega
   ·exact z
  have hv:eR s.eb∈pM s++C:=List.mem_append_left _ (by simp[pM]);refine h.dj hv hr rfl rfl (j:=(0,0)) (j':=(0,0)) ⟨by show 0<s.eb.c;omega,hn⟩ ⟨Nat.zero_lt_one,by simp⟩ ?_
  show(⟨s.eb.E,0,none⟩:Addr)=⟨b,0+0,none⟩
  rw[←z,hb]
theorem Sat.lK{b:Nat}{v:Value}(h:Sat Ok w' M)(hv:w'.cell? ⟨b,0,none⟩=some v)(ho:Ok ⟨b,0,none⟩ false)(hn:∀r∈M,r.wr=true→∀j,r.has j→(r.ad j).block≠b):Sat Ok w' (oR b 0 [v] false::M):=by
 rw[sat_iff] at h ⊢;refine⟨fun r hr=>?_,List.pairwise_cons.2 ⟨fun r hr hw j j' hj bP e=>?_,h.2⟩⟩
 ·rcases List.mem_cons.1 hr with rfl|hr
  ·have h0:∀j:Ix,(oR b 0 [v] false).has j→j=(0,0):=fun j hj=>by
    obtain⟨h1,h2⟩:=hj;have iq:j.1<1:=h1;have qA:j.2<1:=h2;cases j;simp at iq qA;subst iq;subst qA;rfl
   exact⟨fun j hj=>by rw[h0 j hj];exact hv,fun j hj=>⟨by rw[h0 j hj];exact ho,fun z=>(by cases z)⟩,fun z=>(by cases z),fun g e n z=>(by cases z)⟩
  ·exact h.1 r hr
 ·rcases hw with z|z
  ·cases z
  ·exact hn r hr z j' bP (by rw[←e])
theorem Sat.Tr:∀{Z:List ah},Sat Ok w M→(∀r∈Z,r∈M∧r.wr=false)→Sat Ok w (Z++M)
 |[],h,_=>h
 |r::Z,h,hz=>by
  have h1:=Sat.Tr (Z:=Z) h fun r' lD=>hz r' (List.mem_cons_of_mem _ lD)
  obtain⟨h2,h3⟩:=hz r (List.mem_cons_self ..);obtain⟨i,hi⟩:=kV h2;exact h1.get (Has.app (C:=M) ⟨h3,i,hi⟩ Z)
theorem Sat.blk(h:Sat Ok w M){r:ah}(hr:r∈M){j:Ix}(hj:r.has j):(r.ad j).block<w.heap.size:=aq ((h.mem hr).val j hj)
end
end
section
open Go.Conc Go.RowKit Tryz
open Go.ConcN (sumTo sumTo_upd)
abbrev cu{α:Type}(f:Nat→α)(i:Nat)(x:α):Nat→α:=Go.ConcN.upd f i x
theorem bz{α:Type}(f:Nat→α)(i:Nat)(x:α):cu f i x i=x:=Go.ConcN.upd_same ..
theorem cq{α:Type}(f:Nat→α){i j:Nat}(x:α)(h:j≠i):cu f i x j=f j:=Go.ConcN.upd_ne _ _ h
structure RN where
 wI:World
 l:List Nat
 k:PK
 cR:Frame
 oF:List Frame
 S:List ah
 W:List ah
 Lf:LS
 ba:Nat→Nat
 bt:Nat→Nat
 bw:Nat→Nat
 bi:Nat→Nat
 bl:Nat
 bo:Nat
abbrev RN.n(R:RN):Nat:=R.k.V.nc
abbrev RN.cc(R:RN):List Nat:=R.k.bU::R.k.bS::(List.range R.n).map R.k.aX
abbrev Mg(A:Nat):Value:=.pointer (some ⟨A,5,none⟩)
structure xO(R:RN):Prop where
 V:vU R.k.V
 hA:R.k.A∈R.l
 ll:∀x∈R.l,x≤R.k.A
 iA:R.wI.heap.size≤R.k.A
 iw:R.wI.heap.size≤R.k.bU
 ie:R.wI.heap.size≤R.k.bS
 it:∀j,j<R.n→R.wI.heap.size≤R.k.aX j
 we:R.k.bU≠R.k.bS
 tw:∀j,j<R.n→R.k.aX j≠R.k.bU∧R.k.aX j≠R.k.bS
 ti:∀i,i<R.n→∀j,j<R.n→R.k.aX i=R.k.aX j→i=j
 sc:∀j,j<R.n→R.k.sc j=.func (.func 50) #[] #[ptr (R.ba j),ptr (R.bt j),ptr (R.bw j)]
 jH:0<R.n→zA R.k R.S
 fl:Flat R.S
 flW:Flat R.W
 ro:∀r∈R.S,r.wr=false
 ch:Has R.S (oR R.k.A 3 [.chan (some R.k.bU),.chan (some R.k.bS)] false)
 gi:∀j,j<R.n→Has R.S (oR (R.ba j) 0 [ptr R.k.A] false)
 yc:∀j,j<R.n→Has R.S (oR (R.bt j) 0 [ptr (R.k.T j)] false)
 eZ:∀j,j<R.n→Has R.S (oR (R.bw j) 0 [.func (.func 37) #[] #[ptr R.bl,ptr R.bo,ptr (R.bi j)]] false)
 aA:∀j,j<R.n→Has R.S (oR (R.bi j) 0 [i6 j] false)
 L6:Has R.S (oR R.bo 0 [.slice (some ⟨R.k.O,0,none⟩) R.k.V.nc R.k.V.nc] false)
 Iz:Has R.S (oR R.bl 0 [BT R.k 0] false)
structure Br where
 κ:Nat
 wn:Nat
 x:Nat
 bg:Nat
 c:Frame
 cs:List Frame
 R:List ah
 v:Value
 ly:Int
 b:Bk
 a:Nat→Int
 us:Int
abbrev TQ:=Option (Br ⊕ Bool)
abbrev iP(q:Br):TQ:=some (.inl q)
abbrev lM:TQ:=some (.inr false)
abbrev CK:TQ:=some (.inr true)
theorem vZ(s:TQ):s=none∨(∃q,s=iP q)∨s=lM∨s=CK:=by
 match s with
 |none=>exact .inl rfl
 |some (.inl q)=>exact .inr (.inl ⟨q,rfl⟩)
 |some (.inr false)=>exact .inr (.inr (.inl rfl))
 |some (.inr true)=>exact .inr (.inr (.inr rfl))
def own(T:Nat):TQ→List ah
 |none=>[jw T (.pointer none) false]
 |some (.inl q)=>jw T q.v false::oR q.x 1 [i6 0] true::oR q.x 0 [ptr T] false::q.R
 |some (.inr _)=>[]
def u5:TQ→Nat
 |none=>1
 |_=>0
def xS:TQ→Nat
 |some (.inl _)=>1
 |_=>0
structure Gd where
 st:List (Addr×Value)
 ng:Nat
 L:Nat
 nb:Nat
 Inb:Nat→Option Seat
 St:Nat→Loc→Prop
 tk:Nat→TQ
 dn:List ah
def om(R:RN)(tk:Nat→TQ):List ah:=(List.range R.n).flatMap fun j=>own (R.k.T j) (tk j)
def cO(R:RN)(σ:Gd):List ah:=om R σ.tk++(σ.dn++R.S)
abbrev Gd.fr(σ:Gd)(R:RN):Nat:=sumTo R.n fun j=>u5 (σ.tk j)
abbrev Gd.pk(σ:Gd)(R:RN):Nat:=sumTo R.n fun j=>xS (σ.tk j)
theorem sZ(f g:Nat→List ah)(i:Nat)(hi:g i=[])(hg:∀j,j≠i→g j=f j):∀n,((List.range n).flatMap f).Perm ((if i<n then f i else[])++(List.range n).flatMap g)
 |0=>by simp
 |n+1=>by
  have ih:=sZ f g i hi hg n;rw[List.range_succ,List.flatMap_append,List.flatMap_append];simp only[List.flatMap_cons,List.flatMap_nil,List.append_nil]
  by_cases e:n=i
  ·subst e
   rw[if_neg (Nat.lt_irrefl _),List.nil_append] at ih;rw[if_pos (Nat.lt_succ_self _),hi,List.append_nil];exact(ih.append_right _).trans List.perm_append_comm
  ·rw[hg n e]
   have:(i<n)=(i<n+1):=by apply propext;omega
   simp only[this] at ih;rw[←List.append_assoc];exact ih.append_right _
theorem vn{R:RN}{tk:Nat→TQ}{i:Nat}(hi:i<R.n){b:Bool}:(om R tk).Perm (own (R.k.T i) (tk i)++om R (cu tk i (some (.inr b)))):=by
 have:=sZ (fun j=>own (R.k.T j) (tk j)) (fun j=>own (R.k.T j) (cu tk i (some (.inr b)) j)) i (by simp only[bz];rfl) (fun j hj=>by simp only[cq _ _ hj]) R.n;rw[if_pos hi] at this;exact this
theorem TB{α:Type}(f:Nat→α)(i:Nat)(x y:α):cu (cu f i x) i y=cu f i y:=by
 funext j;by_cases e:j=i
 ·subst e;rw[bz,bz]
 ·rw[cq _ _ e,cq _ _ e,cq _ _ e]
theorem TA{α:Type}(f:Nat→α)(i:Nat)(x:α)(h:f i=x):cu f i x=f:=by
 funext j;by_cases e:j=i
 ·subst e;rw[bz,h]
 ·rw[cq _ _ e]
abbrev ku(R:RN)(σ:Gd):Addr→Bool→Prop:=cQ R.wI.heap.size R.l σ.st
abbrev xQ(R:RN)(Post:Value→World→Prop)(σ:Gd)(h:Nat):Goroutine→World→Prop:=gG prog Post (KD R.wI R.k.A R.cc σ.st) (QD R.k.A) (jQ R.l) σ.St σ.Inb (iF R.k.A) σ.L σ.nb h σ.ng 0
structure Yl(R:RN)(σ:Gd)(s:PS)(j:Nat)(q:Br):Prop where
 zH:σ.Inb q.κ=some (lY (R.k.aX j) q.c q.cs)
 κ0:0<q.κ
 κn:q.κ<σ.ng
 bg:(⟨q.bg,0,none⟩,Mg R.k.A)∈σ.st
 x:(⟨q.x,0,none⟩,ptr (R.k.T j))∈σ.st
 wn:q.wn<s.l.wl
 wb:s.wb q.wn=q.x
 wl:(s.l.wt q.wn).l=q.ly
 wk:(s.l.wt q.wn).b=q.b
 a:(s.l.tk j).a=q.a
 us:s.l.us j=q.us
 jH:zA R.k q.R
 fl:Flat q.R
structure Co(R:RN)(σ:Gd)(s:PS)(B:Nat):Prop where
 hk:s.k=R.k
 Lz:0<σ.ng
 IB:R.wI.heap.size≤B
 AB:R.k.A<B
 st:∀p∈σ.st,p.1.off≠5∧p.1.off≠6∧p.1.block<B
 sA:∀y∈rF R.k.A R.k.bU R.k.bS,y∈σ.st
 sT:∀j,j<R.n→(⟨R.k.T j,3,none⟩,Value.chan (some (R.k.aX j)))∈σ.st
 MZ:∀g x,(σ.Inb g).isSome→σ.St g x→xL σ.st x
 zH:∀g e,σ.Inb g=some e→g≠0→∃j q,j<R.n∧σ.tk j=iP q∧q.κ=g
 pk:∀j q,j<R.n→σ.tk j=iP q→Yl R σ s j q
 lP:∀i∈s.q,∃t:Nat,t<R.n∧(s.l.ag i).t=t∧(((s.l.ag i).c=0∧σ.tk t=none)∨((s.l.ag i).c=1∧∃q,σ.tk t=iP q∧(s.l.ag i).w=q.wn))
 ql:∀i∈s.q,i<s.l.al
 all:∀t:Nat,t<R.n→(σ.tk t=none∨∃q,σ.tk t=iP q)→∃i∈s.q,(s.l.ag i).t=t
 Ty:s.q.Pairwise fun i j=>(s.l.ag i).t≠(s.l.ag j).t
 cnt:s.q.length=σ.fr R+σ.pk R
 nb:σ.nb+σ.fr R≤9
 ed:∀j,j<R.n→σ.tk j=CK→gQ (σ.dn++R.S) (s.oh j) (s.l.ou j).b.ch
 Tz:Flat σ.dn
 dW:∃Y,σ.dn=Y++R.W
abbrev lX(R:RN):Seat:=lZ R.k.bU R.k.bS (C9 R.k.A R.k.bU R.k.bS (R.cR::R.oF))
structure zD(R:RN)(σ:Gd)(s:PS)(B t κ bg:Nat):Prop where
 co:Co R σ s B
 tn:t<R.n
 lv:σ.tk t=lM
 Zj:∀j,j<R.n→j≠t→σ.tk j≠lM
 i0:σ.Inb 0=some (lX R)
 κ0:0<κ
 κn:κ<σ.ng
 iκ:σ.Inb κ=none
 bg:(⟨bg,0,none⟩,Mg R.k.A)∈σ.st
 L:σ.L=σ.pk R+1
def TU(R:RN)(Post:Value→World→Prop)(P:Nat→Br→Prop)(m j:Nat)(q:Br):Prop:=∀(σ:Gd)(s:PS)(w:World),zD R σ s w.heap.size j q.κ q.bg→Sat (ku R σ) w (pM s++(jw (R.k.T j) q.v false::(q.R++cO R σ)))→PV (ku R σ) s (cy s)→QI s→zC R.k.V R.Lf m j q.wn s.l→
 (s.l.wt q.wn).l=q.ly→(s.l.wt q.wn).b=q.b→(s.l.tk j).a=q.a→s.l.us j=q.us→(∀j' q',j'<R.n→σ.tk j'=iP q'→P j' q')→xQ R Post σ q.κ (G (q.c.finish (i6 1)) q.cs) w
def oH(R:RN)(Post:Value→World→Prop):Nat→Nat→Br→Prop
 |0,_,_=>True
 |m+1,j,q=>oH R Post m j q∧TU R Post (oH R Post m) m j q
theorem oH.of{R:RN}{Post:Value→World→Prop}{j:Nat}{q:Br}:∀{m:Nat},(∀m',m'<m→TU R Post (oH R Post m') m' j q)→oH R Post m j q
 |0,_=>trivial
 |m+1,h=>⟨oH.of fun m' hm=>h m' (Nat.lt_succ_of_lt hm),h m (Nat.lt_succ_self m)⟩
theorem oH.mono{R:RN}{Post:Value→World→Prop}{j:Nat}{q:Br}:∀{m m':Nat},m≤m'→oH R Post m' j q→oH R Post m j q
 |m,0,h,x=>by cases Nat.le_zero.1 h;exact x
 |m,m'+1,h,x=>by
  by_cases e:m=m'+1
  ·subst e;exact x
  ·exact oH.mono (Nat.le_of_lt_succ (Nat.lt_of_le_of_ne h e)) x.1
def vW(R:RN)(Post:Value→World→Prop)(m:Nat):Prop:=∀(σ:Gd)(s:PS)(w:World)(g:Goroutine),Co R σ s w.heap.size→(∀j,j<R.n→σ.tk j≠lM)→σ.Inb 0=none→σ.L=σ.pk R→Sat (ku R σ) w (pM s++cO R σ)→PV (ku R σ) s (cy s)→QI s→Fin R.k.V R.Lf m none s.l→
 (∀j q,j<R.n→σ.tk j=iP q→oH R Post m j q)→xM R.k.A (R.cR::R.oF) g→xQ R Post σ 0 g w
structure TW(R:RN)(Post:Value→World→Prop)(Λ t κ bg:Nat) where
 σ:Gd
 s0:PS
 B:Nat
 sj:Nat
 OW:zD R σ s0 B t κ bg
 rs:∀j q,j<R.n→σ.tk j=iP q→oH R Post sj j q
 lt:sj<Λ
def eD(R:RN)(Post:Value→World→Prop)(Λ t κ bg:Nat):TE (TW R Post Λ t κ bg):=⟨fun p=>ku R p.σ,fun p=>xQ R Post p.σ κ,fun p=>p.B,fun p=>cO R p.σ,fun p=>p.s0,fun p=>p.sj⟩
section
variable{R:RN}{Post:Value→World→Prop}{σ:Gd}{s s':PS}{B B' t κ bg:Nat}
theorem Co.n5(C:Co R σ s B):∀p∈σ.st,p.1≠⟨R.k.A,5,none⟩:=fun p hp e=>by have:=(C.st p hp).1;rw[e] at this;exact this rfl
theorem Co.n6(C:Co R σ s B):∀p∈σ.st,p.1≠⟨R.k.A,6,none⟩:=fun p hp e=>by have:=(C.st p hp).2.1;rw[e] at this;exact this rfl
theorem Co.D6(C:Co R σ s B):σ.nb≤9:=Nat.le_trans (Nat.le_add_right _ _) C.nb
theorem Co.hB(C:Co R σ s B)(H:xO R)(a:Addr)(wr:Bool)(h:B≤a.block):ku R σ a wr:=by
 refine⟨fun⟨A',h1,h2⟩=>?_,fun _=>⟨Nat.le_trans C.IB h,fun⟨p,hp,e⟩=>?_⟩⟩
 ·have h3:=H.ll A' h1
  have h4:=C.AB;rcases h2 with h2|h2<;>(cases h2;simp only at h;omega)
 ·have:=(C.st p hp).2.2
  cases e;omega
theorem Co.Mi(C:Co R σ s B)(H:xO R)(h:Nat):aC prog (h==0) (DX (ku R σ)) (xQ R Post σ h):=SZ H.hA H.iA C.D6 C.n5 C.MZ h
theorem Co.gu(C:Co R σ s B)(hl:σ.tk t=lM)(h:Gu t s s')(hw:s'.l.wl=s.l.wl):Co R σ s' B:=by
 refine{C with hk:=h.k.trans C.hk,pk:=fun j q hj hq=>?_,lP:=fun i hi=>?_,ql:=fun i hi=>?_,all:=fun t' JZ h'=>?_,Ty:=?_,cnt:=?_,ed:=fun j hj he=>?_}
 ·have P:=C.pk j q hj hq
  have Ob:j≠t:=fun e=>by rw[e,hl] at hq;cases hq
  exact{P with wn:=by rw[hw];exact P.wn,wb:=by rw[h.wb];exact P.wb,wl:=by rw[h.wt];exact P.wl,wk:=by rw[h.wt];exact P.wk,a:=by rw[h.tk j Ob];exact P.a,us:=by rw[h.us j Ob];exact P.us}
 ·rw[h.q] at hi;rw[h.ag];exact C.lP i hi
 ·rw[h.q] at hi;rw[h.al];exact C.ql i hi
 ·rw[h.q,h.ag];exact C.all t' JZ h'
 ·rw[h.q,h.ag];exact C.Ty
 ·rw[h.q];exact C.cnt
 ·have Ob:j≠t:=fun e=>by rw[e,hl] at he;cases he
  rw[(h.ou j Ob).1,(h.ou j Ob).2];exact C.ed j hj he
theorem Flat.om(C:Co R σ s B):Flat (om R σ.tk):=by
 rw[cN];intro r hr;unfold Go.Proofs.YtobagnjnbmgidaaGreatDoor.om at hr;obtain⟨j,hj,hr⟩:=List.mem_flatMap.1 hr;rcases vZ (σ.tk j) with e|⟨q,e⟩|e|e
 ·rw[e] at hr;simp[own] at hr;rw[hr]
 ·rw[e] at hr
  simp only[own,List.mem_cons] at hr;rcases hr with rfl|rfl|rfl|hr
  ·rfl
  ·rfl
  ·rfl
  ·exact cN.1 (C.pk j q (List.mem_range.1 hj) e).fl r hr
 ·rw[e] at hr;cases hr
 ·rw[e] at hr;cases hr
theorem Co.q9(C:Co R σ s B)(H:xO R):s.q.length<900:=by
 have h1:=C.cnt;have h2:σ.fr R≤1*R.n:=Go.ConcN.sumTo_le (fun i _=>by rcases vZ (σ.tk i) with e|⟨q,e⟩|e|e<;>rw[e]<;>simp[u5]);have h3:σ.pk R≤1*R.n:=Go.ConcN.sumTo_le (fun i _=>by rcases vZ (σ.tk i) with e|⟨q,e⟩|e|e<;>rw[e]<;>simp[xS]);have h4:R.n≤9:=H.V.nc;omega
theorem Co.flat(C:Co R σ s B)(H:xO R):Flat (cO R σ):=(Flat.om C).app (C.Tz.app H.fl)
end
end
end Go.Proofs.YtobagnjnbmgidaaGreatDoor
