import Derived.Test.YtobagnjnbmgidaaGreatDoorS18
set_option linter.all false
set_option maxHeartbeats 0
set_option maxRecDepth 100000
namespace Go.Proofs.YtobagnjnbmgidaaGreatDoor
open Go.Conc Go.RowKit Tryz
variable{b:Bk}{V:Ev0}{L:LS}{ch:List iF}{m q:Nat}{k:PK}{C R:aX}{w:aj}{c cf:aE}{v:ay}{cs:cW}
variable{main:Bool}{B t:Nat}{Ok:dw}{Ψ:gi}{γ:Type}{kk:PK}{Lf:LS}{E:TE γ}
theorem Py(F:aC prog main (DX Ok) Ψ)(hB:HB B Ok){lk u:Nat}(o:Sat Ok w (bR u [ptr lk]::bR lk [v]::C))(p:B<=w.heap.size)(K:∀w',Sat Ok w' (bR lk [ptr q]::C)->w.heap.size<=w'.heap.size->Ψ (G (cf.finish (.bool true)) cs) w'):
 Ψ (G (Frame.enter prog 95 #[.iface 168 (ptr q),.iface 170 (ptr lk),.agg #[.pointer (some ⟨1,170,none⟩),ptr u,.int .u64 150],.iface 217 (.agg #[.pointer (some ⟨1,168,none⟩)])] .normal) (cf::cs)) w:=by
 refine dg f95 func95 _ rfl 62 (by kernel_rfl) o λbb H B1 A a f e y j=>?_
 refine aq F hB a e y 7 [] [] [] [(6,ptr B1),(0,.iface 168 (ptr q)),(1,.iface 170 (ptr lk)),(3,.iface 217 (.agg #[.pointer (some (Addr.mk 1 168 none))]))] (λM=>bR (B1) [.pointer (some (Addr.mk 1 170 none)),ptr u,.int .u64 150]::(M)) 1 7 [] [] λD z x d i n r=>?_
 refine bP F hB a f d x 22 [0,0,0,3,1,0,0,1,0,0,0,1,3,0,0,1] [3] [] 8 (.bool true) (λM=>bR (B1+1) [ptr q]::(bu 2 (0,0) (ptr q) (M))) 2 29 [true] [] λg s h l=>?_
 exact K g s.sat.tail.tail.tail (by omega)
theorem Y0(F:aC prog main (DX Ok) Ψ)(hB:HB B Ok){lk:Nat}(z:Has C (oR 0 0 [.iface 217 (.agg #[.pointer (some ⟨1,121,none⟩)])] false))(i:Sat Ok w (bR lk [v]::C))(D:B<=w.heap.size)(K:∀w',Sat Ok w' (bR lk [ptr q]::C)->w.heap.size<=w'.heap.size->Ψ (G (cf.finish (.bool true)) cs) w'):
 Ψ (G (Frame.enter prog 65 #[.iface 168 (ptr q),.iface 170 (ptr lk)] .normal) (cf::cs)) w:=by
 replace i:=i.get z.cons;refine dg f65 func65 _ rfl 42 (by kernel_rfl) i λbb X B1 T a h g P r=>?_
 refine aq F hB a g P 73 [0,0,0,3,0,0,0,3,0,0,0,3,1,0,0,1,2,0,0,1,0,0,0,3] [1,1,1,1,1,3,3,3,3,1] [] [(40,.iface 217 (.agg #[.pointer (some (Addr.mk 1 168 none))])),(39,.agg #[.pointer (some (Addr.mk 1 170 none)),ptr B1,.int .u64 150]),(38,.iface 170 (ptr lk)),(37,.iface 168 (ptr q))] (λM=>bR (B1+1) [.pointer (some (Addr.mk 1 170 none)),ptr B1,.int .u64 150]::(bR (B1) [ptr lk]::(M))) 2 73 [false,false,false,false] [] λW S j f p y I=>?_
 refine bK F a f j 41 95 #[.iface 168 (ptr q),.iface 170 (ptr lk),.agg #[.pointer (some (Addr.mk 1 170 none)),ptr B1,.int .u64 150],.iface 217 (.agg #[.pointer (some (Addr.mk 1 168 none))])] λJ d=>?_
 refine Py (u:=B1) (v:=v) F hB (Sat.D6 (A:=[bR B1 [ptr lk]]) j.sat.tail) (by omega) λQ H x=>d _ _ _ H λU Y O e o=>?_
 refine bP F hB a h e O 2 [] [] [] 4 (.bool true) (λM=>M) 0 76 [false,false,false,false] [] λl N n s=>?_
 exact K l N.sat (by omega)
theorem Px(F:aC prog main (DX Ok) Ψ)(hB:HB B Ok){lk:Nat}(j:Sat Ok w C)(l:B<=w.heap.size)(K:∀w',Sat Ok w' C->w.heap.size<=w'.heap.size->Ψ (G (cf.finish (.bool false)) cs) w'):
 Ψ (G (Frame.enter prog 65 #[.nilIface,.iface 170 (ptr lk)] .normal) (cf::cs)) w:=by
 refine dg f65 func65 _ rfl 42 (by kernel_rfl) j λbb r B1 p d e a o h=>?_
 refine bP F hB d e a o 15 [] [3] [] 4 (.bool false) (λM=>M) 0 15 [true] [] λf n g i=>?_
 exact K f n.sat (by omega)
theorem Jq(e:iF):∀u∈qA e,u.oneCell'=true:=by intro u a;simp[qA]at a;rcases a with rfl|rfl|rfl<;>rfl
theorem CE(F:aC prog main (DX Ok) Ψ)(hB:HB B Ok){bb:aE}(d:bb.kind=.normal)(T:bb.fn=55){cf:aE}{cs:cW}{C:aX}(hC:Has C (oR 0 0 [.iface 217 (.agg #[.pointer (some ⟨1,121,none⟩)])] false)){lk:Nat}(f:Nat->iF):
 ∀(ch:List iF)(n:Nat)(e v:ay)(sa:eN)(cap:Nat)(vs:fH),(∀j,j<ch.length->ch.getD j ⟨0,0,0⟩=f (n+j))->n+ch.length<1000000->lz C e ch->∀X w B1,X.defers=[]->B<=B1->w.heap.size=B1->
   St Ok B1 29 [(4,ptr lk),(3,.slice sa n cap),(0,e)] (bR lk [v]::vR sa 3 (λj=>qA (f j)) n cap 48::sR sa 3 vs n cap::C) 0 X w->Vc Ok sa n cap->
   (∀p cap' vs' w',Sat Ok w' (vR p 3 (λj=>qA (f j)) (n+ch.length) cap' 48::sR p 3 vs' (n+ch.length) cap'::C)->Vc Ok p (n+ch.length) cap'->w.heap.size<=w'.heap.size->Ψ (G (cf.finish (.slice p (n+ch.length:Nat) cap')) cs) w')->
   Ψ (G (bb.at X (pc prog 55 15 [] [])) (cf::cs)) w
 |[],n,e,v,sa,cap,vs,hf,hl,he,X,w,B1,N,hle,iI,S0,hv,K=>by
  have XO:e=.nilIface:=he;subst XO;refine aq F hB d N S0 5 [] [] [] [(6,.iface 170 (ptr lk)),(5,.nilIface),(4,ptr lk),(3,.slice sa n cap)] (λM=>M) 0 20 [] [] λa1 w1 Z J iH jA dS=>?_
  refine bK F d J Z 7 65 #[.nilIface,.iface 170 (ptr lk)] λgJ l=>?_
  refine Px F hB Z.sat (by omega) λw2 Q je=>l _ _ _ Q λa2 B2 S2 I fV=>?_
  refine bP F hB d T I S2 8 [] [1] [] 2 (.slice sa n cap) (λM=>M) 0 29 [false] [] λw3 S3 gQ ji=>?_
  exact K sa cap vs w3 S3.sat.tail hv (by omega)
 |x::ch,n,e,v,sa,cap,vs,hf,hl,he,X,w,B1,N,hle,iI,S0,hv,K=>by
  obtain⟨q,U,rfl,h1,Q⟩:=he;have h2e:=Q;simp only[eG]at hl K;refine aq F hB d N S0 5 [] [] [] [(6,.iface 170 (ptr lk)),(5,.iface 168 (ptr q)),(4,ptr lk),(3,.slice sa n cap)] (λM=>M) 0 20 [] [] λa1 w1 Z J iH jA dS=>?_
  refine bK F d J Z 7 65 #[.iface 168 (ptr q),.iface 170 (ptr lk)] λgJ l=>?_
  refine Y0 F hB hC.cons.cons Z.sat (by omega) λw2 hh2 je=>l _ _ _ (hh2.get h1.cons.cons.cons) λa2 B2 S2 I fV=>?_
  refine aq F hB d I S2 6 [1,0,0,1,0,0,0,1,1,0,0,1,0,0,1,1,1,0,0,1,0,0,2,1] [3] [15] [(22,.slice (some ⟨B2,0,none⟩) 1 1),(8,.slice sa n cap),(4,ptr lk)] (λM=>bR (B2) [i6 x.k,i6 x.l,i6 x.n]::(M)) 1 27 [true] [15] λa3 w3 S3 H gQ ji dX=>?_
  refine Y2 F (λa wr z=>hB a wr (by omega)) d 8 22 23 44 48 3 24 3 4 0 (by kernel_rfl) (by kernel_rfl) (by kernel_rfl) (by decide) rfl rfl rfl rfl (by decide) rfl hv (λ_ _=>rfl) rfl (Jq x) (az _) (by simp only[maxLen];omega) (by omega) S3 λg' cap' QX vs' a4 w4 A Cf D=>?_
  have jP:=A.size;have hfx:x=f n:=by have:=hf 0 (by simp);simpa using this
  have OQ:Sat Ok w4 (bR B2 (qA x)::oR q 0 [i6 x.k,i6 x.l,i6 x.n,U] false::bR lk [ptr q]::vR (some ⟨g',0,none⟩) 3 (λj=>qA (f j)) (n+1) cap' 48::sR (some ⟨g',0,none⟩) 3 vs' (n+1) cap'::C):=A.sat.re 3 rfl rfl (λj=>qA (f j)) λj hj i _=>by
   show(qA (f j)).getD i undef=(QX j).getD i undef
   have tj:j<n+1:=hj
   by_cases e:j=n
   .subst e;rw[A.new,<-hfx]
   .rw[A.old j (by omega)]
  have S4:St Ok w4.heap.size 29 _ _ 0 a4 w4:=⟨Cf,OQ,rfl⟩;have aas:a4.defers=[]:=D.trans H;generalize hB4:w4.heap.size=B4 at*;rw[show jY (pc prog 55 27 [true] [15])=pc prog 55 28 [true] [15] by kernel_rfl]
  have hee:U=.nilIface\/∃P,U=.iface 168 (ptr P):=by
   cases ch with
   |nil=>exact .inl Q
   |cons y ch=>obtain⟨P,_,h,_⟩:=Q;exact .inr ⟨P,h⟩
  have s:∀r o,r.defers=[]->o.heap.size=B4->St Ok B4 29 [(4,ptr lk),(3,.slice (some ⟨g',0,none⟩) (n+1) cap'),(0,U)] (bR lk [ptr q]::vR (some ⟨g',0,none⟩) 3 (λj=>qA (f j)) (n+1) cap' 48::sR (some ⟨g',0,none⟩) 3 vs' (n+1) cap'::C) 0 r o->Ψ (G (bb.at r (pc prog 55 15 [] [])) (cf::cs)) o:=λr o g u Y=>by
   refine CE F hB d T hC f ch (n+1) U (ptr q) _ cap' vs' (λj hj=>?_) (by omega) Q r o B4 g (by omega) u Y A.vc λsa2 W vs2 w6 h6 S yw=>?_
   .have:=hf (j+1) (by simp;omega)
    rw[show n+1+j=n+(j+1) by omega,<-this];simp
   .have e:n+1+ch.length=n+(ch.length+1):=by omega
    rw[e]at h6 S;rw[e];exact K sa2 W vs2 w6 h6 S (by omega)
  rcases hee with rfl|⟨P,rfl⟩
  .refine aq F hB d D S4 11 [2,0,0,1,1,0,3,1] [] [] [(0,.nilIface),(3,.slice (some ⟨g',0,none⟩) (n+1) cap'),(4,ptr lk)] (λM=>M) 0 39 [true] [15] λr o Y g u kT jv=>?_
   rw[show pc prog 55 39 [true] [15]=pc prog 55 15 [] [] by kernel_rfl];have O:=Y.dD [(4,ptr lk),(3,.slice (some ⟨g',0,none⟩) (n+1) cap'),(0,.nilIface)] (by kernel_rfl);exact s r o (g.trans H) (by omega) ⟨O.env,O.sat.tail.tail,O.sz⟩
  .refine aq F hB d D S4 11 [2,0,0,1,1,0,3,1] [] [] [(0,.iface 168 (ptr P)),(3,.slice (some ⟨g',0,none⟩) (n+1) cap'),(4,ptr lk)] (λM=>M) 0 39 [true] [15] λr o Y g u kT jv=>?_
   rw[show pc prog 55 39 [true] [15]=pc prog 55 15 [] [] by kernel_rfl];have O:=Y.dD [(4,ptr lk),(3,.slice (some ⟨g',0,none⟩) (n+1) cap'),(0,.iface 168 (ptr P))] (by kernel_rfl);exact s r o (g.trans H) (by omega) ⟨O.env,O.sat.tail.tail,O.sz⟩
theorem Kw(F:aC prog main (DX Ok) Ψ)(hB:HB B Ok)(Q:Has C (oR 0 0 [.iface 217 (.agg #[.pointer (some ⟨1,121,none⟩)])] false))(hl:ch.length<1000000){e:ay}(o:lz C e ch)(n:ch≠[])(P:Sat Ok w C)(S:B<=w.heap.size)(K:∀d cap' vs' w',Sat Ok w' (vR d 3 (λj=>qA (ch.getD j ⟨0,0,0⟩)) ch.length cap' 48::sR d 3 vs' ch.length cap'::C)->Vc Ok d ch.length cap'->w.heap.size<=w'.heap.size->Ψ (G (cf.finish (.slice d ch.length cap')) cs) w'):
 Ψ (G (Frame.enter prog 55 #[e] .normal) (cf::cs)) w:=by
 obtain⟨q,rfl⟩:∃q,e=.iface 168 (ptr q):=by
  cases g:ch with
  |nil=>exact absurd g n
  |cons y ch=>rw[g]at o;obtain⟨q,_,h,_⟩:=o;exact⟨q,h⟩
 refine dg f55 func55 _ rfl 29 (by kernel_rfl) P λbb Y B1 X i u s W J=>?_
 refine aq F hB i s W 15 [] [] [] [(4,ptr B1),(3,.slice none 0 0),(0,.iface 168 (ptr q))] (λM=>bR (B1) [.pointer none]::(M)) 1 15 [] [] λU l D p I O T=>?_
 have x:Sat Ok l (bR B1 [.pointer none]::vR none 3 (λj=>qA (ch.getD j ⟨0,0,0⟩)) 0 0 48::sR none 3 (λ_=>[]) 0 0::C):=((Sat.ff (Sat.ff D.sat (r:=sR none 3 (λ_=>[]) 0 0) rfl rfl) (r:=vR none 3 (λj=>qA (ch.getD j ⟨0,0,0⟩)) 0 0 48) rfl rfl).perm (iQ (l₁:=[_,_])));have A:0+ch.length=ch.length:=bD _;refine CE F hB i u Q (λj=>ch.getD j ⟨0,0,0⟩) ch 0 _ (.pointer none) none 0 (λ_=>[]) (λj _=>by rw[bD]) (by omega) o U l l.heap.size p (by omega) rfl ⟨D.env,x,rfl⟩ ⟨.inl ⟨rfl,rfl,rfl⟩,az _,iN _,λa h=>by cases h⟩ λd cap' vs' H z f N=>?_
 rw[A]at z f;rw[A];exact K d cap' vs' H z f (by omega)
def Zd(C:aX)(a:ay)(b:Bk):Prop:=(b.k=1/\a=.agg #[i6 b.n,.nilIface,.nilIface])\/(b.k=2/\∃q,a=.agg #[i6 0,.iface 168 (ptr q),.nilIface]/\lz C (.iface 168 (ptr q)) b.ch)\/(b.k=3/\a=.agg #[i6 0,.nilIface,.iface 166 (i6 b.n)])
theorem Fe(f:vf k.V):∃ty,BV k 0=.iface ty (ptr (k.lb 0))/\((ty=138/\fZ k.V 0=146)\/(ty=141/\fZ k.V 0=156)\/(ty=144/\fZ k.V 0=165)\/(ty=147/\fZ k.V 0=167)\/(ty=150/\fZ k.V 0=169)):=by
 unfold BV fZ
 by_cases e:0=k.V.nl
 .rw[ah e,ah e];exact⟨138,rfl,.inl ⟨rfl,rfl⟩⟩
 .rw[af e,af e]
  by_cases e1:(k.V.ly 0).k=1
  .rw[ah e1,ah e1];exact⟨141,rfl,.inr (.inl ⟨rfl,rfl⟩)⟩
  .rw[af e1,af e1]
   by_cases d:(k.V.ly 0).k=3
   .rw[ah d,ah d];exact⟨147,rfl,.inr (.inr (.inr (.inl ⟨rfl,rfl⟩)))⟩
   .rw[af d,af d]
    by_cases a:(k.V.ly 0).k=4
    .rw[ah a,ah a];exact⟨150,rfl,.inr (.inr (.inr (.inr ⟨rfl,rfl⟩)))⟩
    .rw[af a,af a];exact⟨144,rfl,.inr (.inr (.inl ⟨rfl,rfl⟩))⟩
theorem Ck{j:Nat}(h:Fin V Lf m (some (t,j,some b)) L):Is b/\xg V t L:=by
 cases m with
 |zero=>exact h.elim
 |succ m=>exact⟨(h.2.2.1 b rfl).1,h.1⟩
theorem Uu(W:l7 E kk Lf t){p:γ}{s:PS}(C:Cn E kk t p s w v R)(hf:Fin kk.V Lf m (some (t,0,none)) s.l)(JV:m<=E.qT p)(K:∀T n I w' S X a b,T<m->T<=E.qT n->Cn E kk t n I w' S (X++R)->Fin kk.V Lf T (some (t,0,some b)) I.l->Zd X a b->E.Ψ n (G (c.finish a) cs) w'):
 E.Ψ p (G (Frame.enter prog 52 #[BV kk 0,ptr (kk.T t)] .normal) (c::cs)) w:=by
 have F:=W.f p;have hB:=W.hB p;have wY:=C.bd;have hS:=C.sat;have IH:=Cu W kk.V.nl 0 (bD _);obtain⟨ty,GC,LV⟩:=Fe W.V;rw[GC];unfold eM at IH;generalize fZ kk.V 0=gf at*;refine dg f52 func52 _ rfl 15 (by kernel_rfl) hS λbb a0 B1 hn j iK jf S0 iI=>?_
 refine aq F hB j jf S0 7 [] [] [] [(5,.func (Fn.func 64) #[] #[ptr B1]),(4,ptr B1),(0,.iface ty (ptr (kk.lb 0))),(1,ptr (kk.T t))] (λM=>bR (B1) [i6 0,.nilIface,.nilIface]::(M)) 1 7 [] [] λa1 w1 S1 kJ iH jA dS=>?_
 refine YN F hn kJ 64 [ptr B1] (by kernel_rfl) (by kernel_rfl) (by kernel_rfl) S1 λa2 S2 jQ=>?_
 refine aq F hB j jQ S2 5 [] [] [] [(8,ptr (kk.T t)),(7,.iface ty (ptr (kk.lb 0))),(4,ptr B1)] (λM=>M) 1 13 [] [] λa3 w3 S3 jF gQ ji dX=>?_
 refine Mm F j jF 9 gf #[ptr (kk.lb 0),ptr (kk.T t)] (by rcases LV with ⟨rfl,rfl⟩|⟨rfl,rfl⟩|⟨rfl,rfl⟩|⟨rfl,rfl⟩|⟨rfl,rfl⟩<;>kernel_rfl) (by kernel_rfl) (by decide) S3 λcf OI=>?_
 have C3:Cn E kk t p s w3 v ([bR B1 [i6 0,.nilIface,.nilIface]]++R):=⟨S3.sat.perm (gO (A:=pM s)),C.pv,C.qi,C.fl.cons rfl,C.fJ.cons,by omega,C.gu,C.hk,C.ql⟩;refine IH m p s w3 v _ cf (c::cs) C3 hf JV λT n I w' S X r b U Y C' J hr Ay _=>?_
 obtain⟨Av,En⟩:=Ck J;have sF:=C'.bd;replace F:=W.f n;replace hB:=W.hB n;have hM:=C'.sat.perm (gD (A:=pM I));have o:∀w5,Sat (E.Ok n) w5 (pM I++(fI (kk.T t) S false::((X++R)++E.P n I)))->w'.heap.size<=w5.heap.size->Cn E kk t n I w5 S (X++R):=λw5 h5 kT=>⟨h5,C'.pv,C'.qi,C'.fl.Qb,C.fJ.app X,by omega,C'.gu,C'.hk,C'.ql⟩
 rcases hr with ⟨hb,rfl⟩|⟨hb,e,rfl,he⟩|⟨hb,rfl⟩
 .refine OI.ret _ _ _ _ _ hM λa5 B5 S5 H mz=>?_
  refine aq F hB j H S5 13 [0,0,0,2,0,0,0,3,0,0,0,3] [] [] [(4,ptr B1)] (λM=>bu 0 (0,0) (i6 b.n) (M)) 0 27 [] [] λa6 w6 S6 Z oS yw Qy=>?_
  refine P8 F (by kernel_rfl) Z f64 func64 _ rfl (by kernel_rfl) 3 (by kernel_rfl) S6 λa7 S7 D=>?_
  refine wZ F aB hB (by omega) D 1 [] [] [] [(0,ptr B1)] (λM=>M) 0 1 [] [] [] [] [] (by kernel_rfl) (by kernel_rfl) cg cg cg S7 λa8 w8 S8 x yt Em O3=>?_
  refine U3 F 1 (by kernel_rfl) (by kernel_rfl) (by decide) rfl S8 λa9 S9 g=>?_
  rw[x]at g;refine wZ F aB hB (by omega) g 3 [(0,(0,2),true)] [] [] [] (λM=>M) 0 5 [] [] [] [] [] (by kernel_rfl) (by kernel_rfl) cg cg cg S9 λCN f l i O P Q=>?_
  refine QA F (by kernel_rfl) i f64 func64 (by kernel_rfl) ?_;refine Je F (a:=⟨a6.tmps,[]⟩) (N:=15) (E:=[(4,ptr B1)]) ⟨S6.env.sz,S6.env.val⟩ l.sat j iK rfl [(0,(0,0),true),(0,(0,1),true),(0,(0,2),true)] (.agg #[i6 b.n,.nilIface,.nilIface]) (by kernel_rfl) (by kernel_rfl) ?_;exact K T n I f S X _ b U Y (o f l.sat.tail (by omega)) J (.inl ⟨hb,rfl⟩)
 .have ny:b.ch≠[]:=by
   rcases Av.2.2 with ⟨z,_⟩|⟨_,_,z⟩|⟨z,_⟩
   .omega
   .exact z
   .omega
  obtain⟨q,rfl⟩:∃q,e=.iface 168 (ptr q):=by
   cases gI:b.ch with
   |nil=>exact absurd gI ny
   |cons y ch=>rw[gI]at he;obtain⟨q,_,h,_⟩:=he;exact⟨q,h⟩
  refine OI.ret _ _ _ _ _ hM λa5 B5 S5 H mz=>?_
  refine aq F hB j H S5 13 [0,0,0,2,0,0,0,3,0,0,0,3] [] [] [(4,ptr B1)] (λM=>bu 0 (0,1) (.iface 168 (ptr q)) (M)) 0 27 [] [] λa6 w6 S6 Z oS yw Qy=>?_
  refine P8 F (by kernel_rfl) Z f64 func64 _ rfl (by kernel_rfl) 3 (by kernel_rfl) S6 λa7 S7 D=>?_
  refine wZ F aB hB (by omega) D 1 [] [] [] [(0,ptr B1)] (λM=>M) 0 1 [] [] [] [] [] (by kernel_rfl) (by kernel_rfl) cg cg cg S7 λa8 w8 S8 x yt Em O3=>?_
  refine U3 F 1 (by kernel_rfl) (by kernel_rfl) (by decide) rfl S8 λa9 S9 g=>?_
  rw[x]at g;refine wZ F aB hB (by omega) g 3 [(0,(0,2),true)] [] [] [] (λM=>M) 0 5 [] [] [] [] [] (by kernel_rfl) (by kernel_rfl) cg cg cg S9 λCN f l i O P Q=>?_
  refine QA F (by kernel_rfl) i f64 func64 (by kernel_rfl) ?_;refine Je F (a:=⟨a6.tmps,[]⟩) (N:=15) (E:=[(4,ptr B1)]) ⟨S6.env.sz,S6.env.val⟩ l.sat j iK rfl [(0,(0,0),true),(0,(0,1),true),(0,(0,2),true)] (.agg #[i6 0,.iface 168 (ptr q),.nilIface]) (by kernel_rfl) (by kernel_rfl) ?_;exact K T n I f S X _ b U Y (o f l.sat.tail (by omega)) J (.inr (.inl ⟨hb,q,rfl,he⟩))
 .obtain⟨a5,t5,rfl,H,Qu⟩:=OI.Qx
  show E.Ψ n (G ((bb.at a5 t5).raise (jy (.iface 166 (i6 b.n)))) (c::cs)) w'
  rw[raise_at hn.m];refine V7 F H f64 func64 _ rfl (by kernel_rfl) 3 (by kernel_rfl) hM λa7 B7 S7 D oA=>?_
  refine wZ F aB hB (by omega) D 1 [] [] [] [(0,ptr B1)] (λM=>M) 0 1 [] [] [] [] [] (by kernel_rfl) (by kernel_rfl) cg cg cg S7 λa8 w8 S8 x yt Em O3=>?_
  refine Zz F (v:=.iface 166 (i6 b.n)) 1 (by kernel_rfl) (by kernel_rfl) (by decide) rfl S8 λa9 S9 g=>?_
  rw[x]at g;refine wZ F aB hB (by omega) g 3 [(0,(0,2),true)] [] [] [] (λM=>bu 0 (0,2) (.iface 166 (i6 b.n)) (M)) 0 5 [] [] [] [] [] (by kernel_rfl) (by kernel_rfl) cg cg cg S9 λCN f l i O P Q=>?_
  refine D6 F (b:=bb) (a':=⟨a5.tmps,[]⟩) (todo':=t5) (v:=.iface 166 (i6 b.n)) (by kernel_rfl) i f64 func64 (by kernel_rfl) ?_;have hA:aN [(4,ptr B1)] 15 (⟨a5.tmps,[]⟩:Act):=⟨Qu.sz,λd u hl=>Qu.val d u (eZ [(4,ptr B1)] _ (by kernel_rfl) d u hl)⟩;refine Je F hA l.sat j iK rfl [(0,(0,0),true),(0,(0,1),true),(0,(0,2),true)] (.agg #[i6 0,.nilIface,.iface 166 (i6 b.n)]) (by kernel_rfl) (by kernel_rfl) ?_;exact K T n I f S X _ b U Y (o f l.sat.tail (by omega)) J (.inr (.inr ⟨hb,rfl⟩))
theorem Sat.chain{sa:eN}{cap:Nat}{M:aX}(h:Sat Ok w (vR sa 3 (λj=>qA (ch.getD j ⟨0,0,0⟩)) ch.length cap 48::M)){ca:Addr}(a:sa=some ca):Sat Ok w (gZ ca ch::M):=by
 subst a;exact h.Ic 0 rfl (gZ ca ch) (λj hj=>⟨hj,rfl,rfl⟩) (λz=>by cases z) rfl
theorem PS.RU{s:PS}(h:s.k=k):∃a:PS,s={a with k:=k}:=⟨s,by cases s;simp at h;subst h;rfl⟩
theorem Po(W:l7 E kk Lf t){p:γ}{s:PS}(C:Cn E kk t p s w v R)(hf:Fin kk.V Lf m (some (t,0,none)) s.l)(JV:m<=E.qT p)(K:∀J i d w' H X b ho hl hc,J<m->J<=E.qT i->Cn E kk t i d w' H (X++R)->Fin kk.V Lf J (some (t,0,some b)) d.l->eY X (.slice ho hl hc) b.ch->E.Ψ i (G (c.finish (.agg #[i6 d.l.now,i6 b.k,i6 b.n,.slice ho hl hc])) cs) w'):
 E.Ψ p (G (Frame.enter prog 38 #[BV kk 0,ptr (kk.T t)] .normal) (c::cs)) w:=by
 have F:=W.f p;have hB:=W.hB p;have wY:=C.bd;have hS:=C.sat;obtain⟨ty,Y,LV⟩:=Fe W.V;rw[Y];refine dg f38 func38 _ rfl 34 (by kernel_rfl) hS λbb a0 B1 hn e P jf S0 iI=>?_
 refine aq F hB e jf S0 8 [] [] [] [(7,ptr (kk.T t)),(6,.iface ty (ptr (kk.lb 0))),(4,ptr B1),(1,ptr (kk.T t))] (λM=>bR (B1) [i6 0,i6 0,i6 0,.slice none 0 0]::(M)) 1 8 [] [] λa1 w1 S1 kJ iH jA dS=>?_
 refine Mm F e kJ 8 52 #[.iface ty (ptr (kk.lb 0)),ptr (kk.T t)] (by kernel_rfl) (by kernel_rfl) (by decide) S1 λgJ o=>?_
 rw[show(.iface ty (ptr (kk.lb 0)):ay)=BV kk 0 from Y.symm];have C1:Cn E kk t p s w1 v ([bR B1 [i6 0,i6 0,i6 0,.slice none 0 0]]++R):=⟨S1.sat.perm (gO (A:=pM s)),C.pv,C.qi,C.fl.cons rfl,C.fJ.cons,by omega,C.gu,C.hk,C.ql⟩;refine Uu W C1 hf JV λJ i d w' H X a b N O C' x ha=>?_
 obtain⟨d,rfl⟩:=PS.RU C'.hk;obtain⟨y,En⟩:=Ck x;have sF:=C'.bd;replace F:=W.f i;replace hB:=W.hB i;have hM:=(C'.sat.perm (gD (A:=pM {d with k:=kk}))).get ((((((C.fJ.nL t W.tn).app X).pre _).cons).app (pM {d with k:=kk})).cons);have j:∀D,Sat (E.Ok i) D (pM {d with k:=kk}++(fI (kk.T t) H false::((X++R)++E.P i {d with k:=kk})))->w'.heap.size<=D.heap.size->Cn E kk t i {d with k:=kk} D H (X++R):=λD h5 kT=>⟨h5,C'.pv,C'.qi,C'.fl.Qb,C.fJ.app X,by omega,C'.gu,C'.hk,C'.ql⟩
 have gI:b.k≠2->b.ch=[]:=λhz=>by
  rcases y.2.2 with ⟨_,z⟩|⟨z,_⟩|⟨_,z⟩
  .exact z
  .exact absurd z hz
  .exact z
 rcases ha with ⟨hb,rfl⟩|⟨hb,q,rfl,he⟩|⟨hb,rfl⟩
 .refine o.ret _ _ _ _ _ hM λa2 B2 S2 n T=>?_
  refine aq F hB e n S2 28 [0,0,0,3,0,0,2,1,0,0,1,1,1,0,0,1,3,0,0,1,0,0,0,1,2,0,0,4] [1,1] [4] [(4,ptr B1)] (λM=>bR (B2) [i6 b.n,.nilIface,.nilIface]::(bu 1 (0,2) (i6 b.n) (bu 1 (0,1) (i6 1) (bu 1 (0,0) (i6 d.l.now) (M))))) 1 37 [false,false] [4] λa3 Q I l S U dX=>?_
  refine cV F I e P l [2,0,0,4] (.agg #[i6 d.l.now,i6 1,i6 b.n,.slice none 0 0]) ?_;have h:=K J i _ Q H X b none 0 0 N O (j Q I.sat.tail.tail.tail (by omega)) x (.inl ⟨rfl,gI (by omega)⟩);rw[hb]at h;exact h
 .refine o.ret _ _ _ _ _ hM λa2 B2 S2 n T=>?_
  refine aq F hB e n S2 23 [0,0,0,3,0,0,2,1,0,0,1,1,1,0,0,1,3,0,0,1,0,0,1,1] [1,3] [4] [(26,.iface 168 (ptr q)),(24,i6 d.l.now),(4,ptr B1)] (λM=>bR (B2) [i6 0,.iface 168 (ptr q),.nilIface]::(M)) 1 32 [false,true] [4] λa3 Q I l S U dX=>?_
  refine bK F e l I 27 55 #[.iface 168 (ptr q)] λlq Au=>?_
  have Z:b.ch≠[]:=by
   rcases y.2.2 with ⟨z,_⟩|⟨_,_,z⟩|⟨z,_⟩
   .omega
   .exact z
   .omega
  have OK:b.n=0:=by
   rcases y.2.2 with ⟨z,_⟩|⟨_,z,_⟩|⟨z,_⟩
   .omega
   .exact z
   .omega
  refine Kw F hB ((((((C.fJ.err.app X).pre _).cons).app (pM {d with k:=kk})).cons).cons.cons) y.1 (he.up λr hr=>(((((hr.pre R).pre _).cons).app (pM {d with k:=kk})).cons).cons.cons) Z I.sat (by omega) λu cap' vs' w4 h4 hv4 oB=>Au _ _ _ h4 λa4 B4 S4 oD jP=>?_
  refine aq F hB e oD S4 3 [4,0,0,4] [] [] [(4,ptr B1)] (λM=>bu 4 (0,3) (.slice u (List.length b.ch) cap') (bu 4 (0,1) (i6 2) (bu 4 (0,0) (i6 d.l.now) (M)))) 0 36 [false,true] [4] λa5 D S5 nC mz kT jv=>?_
  refine cV F S5 e P nC [4,0,0,4] (.agg #[i6 d.l.now,i6 2,i6 0,.slice u (List.length b.ch) cap']) ?_
  obtain⟨ca,LZ⟩:∃ca,u=some ca:=by
   rcases hv4.row with ⟨_,z,_⟩|⟨g,z,_⟩
   .exact absurd (MN.1 z) Z
   .exact⟨_,z⟩
  have h6:Sat (E.Ok i) D (gZ ca b.ch::(pM {d with k:=kk}++(fI (kk.T t) H false::((X++R)++E.P i {d with k:=kk})))):=(S5.sat.chain LZ).sub (.cons_cons _ (.cons _ (.cons _ (.cons _ (.cons _ (List.Sublist.refl _))))));have f:=j D h6.tail (by omega);have h:=K J i _ D H (gZ ca b.ch::X) b u b.ch.length cap' N O ⟨h6.perm (gO (A:=pM {d with k:=kk})),f.pv,f.qi,f.fl.cons rfl,f.fJ.cons,f.bd,f.gu,f.hk,f.ql⟩ x (.inr ⟨ca,cap',0,by rw[LZ],rfl⟩);rw[hb,OK]at h;exact h
 .refine o.ret _ _ _ _ _ hM λa2 B2 S2 n T=>?_
  refine aq F hB e n S2 39 [0,0,0,3,0,0,2,1,1,0,0,1,3,0,0,1,0,0,2,1,2,0,0,4] [3] [4] [(4,ptr B1)] (λM=>bR (B2) [i6 0,.nilIface,.iface 166 (i6 b.n)]::(bu 1 (0,2) (i6 b.n) (bu 1 (0,1) (i6 3) (bu 1 (0,0) (i6 d.l.now) (M))))) 1 28 [true] [4] λa3 Q I l S U dX=>?_
  refine cV F I e P l [2,0,0,4] (.agg #[i6 d.l.now,i6 3,i6 b.n,.slice none 0 0]) ?_;have h:=K J i _ Q H X b none 0 0 N O (j Q I.sat.tail.tail.tail (by omega)) x (.inl ⟨rfl,gI (by omega)⟩);rw[hb]at h;exact h
theorem Ka(h:Fin V Lf m (some (t,0,some b)) L):∃a,m=a+1/\xg V t L/\Fin V Lf a none (L.end_ t b):=by
 cases m with
 |zero=>exact h.elim
 |succ m=>
  obtain⟨e,g,f,d⟩:=h;simp only[LS.step,if_true]at d;exact⟨m,rfl,e,d⟩
abbrev PS.fin(s:PS)(t:Nat)(b:Bk)(h:ay):PS:={s with oh:=upd s.oh t h,l:=s.l.end_ t b}
theorem M7(W:l7 E kk Lf t){p:γ}{s:PS}{bl bo bi:Nat}(C:Cn E kk t p s w v R)(I:Fin kk.V Lf m (some (t,0,none)) s.l)(A:m<=E.qT p)(h1:Has R (oR bo 0 [.slice (some ⟨kk.O,0,none⟩) kk.V.nc kk.V.nc] false))(h2:Has R (oR bi 0 [i6 t] false))(h3:Has R (oR bl 0 [BV kk 0] false))(K:∀y d (a:PS) w' h X (b:Bk) ho hl hc,y<m->y<=E.qT d->Cn E kk t d (a.fin t b (.slice ho hl hc)) w' h (X++R)->Fin kk.V Lf y none (a.l.end_ t b)->(a.l.tk t).c=(t:Int)->eY X (.slice ho hl hc) b.ch->E.Ψ d (G (c.finish (.tuple #[])) cs) w'):
 E.Ψ p (G (Frame.enter prog 37 #[ptr (kk.T t),ptr bl,ptr bo,ptr bi] .normal) (c::cs)) w:=by
 have F:=W.f p;have hB:=W.hB p;have Q:=C.bd;have hS:=C.sat
 have x:∀d a w' h X,Cn E kk t d a w' h (X++R)->Sat (E.Ok d) w' [oR bo 0 [.slice (some ⟨kk.O,0,none⟩) kk.V.nc kk.V.nc] false,oR bi 0 [i6 t] false,oR bl 0 [BV kk 0] false]:=by
  intro d a w' h X C';refine C'.sat.Fw λr U=>?_
  simp only[ak,bB,or_false]at U;rcases U with rfl|rfl|rfl
  .exact Has.in h1
  .exact Has.in h2
  .exact Has.in h3
 refine dg f37 func37 _ rfl 11 (by kernel_rfl) hS λbb a0 B1 hn l P N S0 iI=>?_
 refine VD W.f aB W.hB l 5 4 [oR bo 0 [.slice (some ⟨kk.O,0,none⟩) kk.V.nc kk.V.nc] false,oR bi 0 [i6 t] false,oR bl 0 [BV kk 0] false] [(0,(0,0),true),(1,(0,0),true),(2,(0,0),true)] [(7,BV kk 0),(8,ptr (kk.T t))] 9 38 #[BV kk 0,ptr (kk.T t)] (by kernel_rfl) (by kernel_rfl) (by kernel_rfl) (by kernel_rfl) (by kernel_rfl) S0 (x p s w v [] C) Q λcf w1 S iH T=>?_
 refine Po W {C with sat:=S,bd:=by omega} I A λy d a w' h X b ho hl hc GM uR C' H O=>?_
 obtain⟨a,rfl⟩:=PS.RU C'.hk;obtain⟨m1,rfl,n,D⟩:=Ka H;have u:=C'.bd;replace F:=W.f d;replace hB:=W.hB d;have WG:=W.tn;refine T.ret d _ w' [] [(5,.slice (some ⟨kk.O,0,none⟩) kk.V.nc kk.V.nc),(6,i6 t),(9,.agg #[i6 a.l.now,i6 b.k,i6 b.n,.slice ho hl hc])] _ u (x d _ w' h X C') C'.sat (by kernel_rfl) (by kernel_rfl) λa2 w2 B2 S2 o fV je=>?_
 rw[N]at o;refine bA F hB l o S2 3 [6,t,0,104] [2] [] [] (λM=>bu 6 (t,3) (.slice ho hl hc) (bu 6 (t,2) (i6 b.n) (bu 6 (t,1) (i6 b.k) (bu 6 (t,0) (i6 a.l.now) (M))))) 0 4 [] [5] [] [((↑t:Int),kk.V.nc)] [(4,(t,kk.V.nc))] λa3 Z Y J gQ ji dX=>?_
 refine cV F Y l P J [] (.tuple #[]) ?_;have en:(a.l.tk t).c.toNat=t:=by rw[n.tc];rfl
 refine K m1 d {a with k:=kk} Z h X b ho hl hc (by omega) (by omega) ⟨Y.sat.re 6 rfl rfl _ λj _ f I=>?_,⟨C'.pv.jr,C'.pv.en,C'.pv.eo,C'.pv.fb⟩,⟨C'.qi.lt,C'.qi.all,C'.qi.Bw,C'.qi.ws⟩,C'.fl,C'.fJ,by omega,C'.gu.trans ⟨rfl,rfl,rfl,rfl,rfl,rfl,rfl,rfl,rfl,λi z=>?_,λ_ _=>rfl,λi z=>⟨?_,?_⟩⟩,rfl,C'.ql⟩ D n.tc O
 .refine Eq.trans ?_ (xG (C:=zm) (g:=λj=>(a.l.ou j,a.oh j)) (r:=(⟨a.l.now,b⟩,.slice ho hl hc)) rfl rfl j f I)
  show(zm (upd a.l.ou (a.l.tk t).c.toNat ⟨a.l.now,b⟩ j,upd a.oh t (.slice ho hl hc) j)).getD f undef=_
  rw[en];unfold upd;by_cases e:j=t<;>simp[e]
 .show upd _ _ _ i=_;simp[upd,z]
 .show upd a.l.ou (a.l.tk t).c.toNat _ i=_;rw[en];simp[upd,z]
 .show upd _ _ _ i=_;simp[upd,z]
end Go.Proofs.YtobagnjnbmgidaaGreatDoor
