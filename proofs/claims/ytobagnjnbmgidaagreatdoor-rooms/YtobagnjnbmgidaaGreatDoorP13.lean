import Derived.Test.YtobagnjnbmgidaaGreatDoorS18
set_option linter.all false
set_option maxHeartbeats 0
set_option maxRecDepth 100000
namespace Go.Proofs.YtobagnjnbmgidaaGreatDoor
open Go.Conc Go.RowKit Tryz
variable{b:Bk}{V:Ev0}{L:LS}{ch:List iN}{m q:Nat}{C R:aW}{w:aj}{c O:aC}{v:ay}{H:cO}
variable{I:Bool}{B t:Nat}{D:dh}{J:gi}{Q:Type}{o:PK}{P:LS}{E:TE Q}
theorem Ol(F:aB prog I (DX D) J)(e:HB B D){lk u:Nat}(b:Sat D w (bR u [ptr lk]::bR lk [v]::C))(a:B<=w.heap.size)(K:∀a,Sat D a (bR lk [ptr q]::C)->w.heap.size<=a.heap.size->J (G (O.finish (.bool true)) H) a):
 J (G (Frame.enter prog 95 #[.iface 168 (ptr q),.iface 170 (ptr lk),.agg #[.pointer (some ⟨1,170,none⟩),ptr u,.int .u64 150],.iface 217 (.agg #[.pointer (some ⟨1,168,none⟩)])] .normal) (O::H)) w:=by
 refine cJ func95 b 62 λa a d a a c b g f=>aq F e a b g 7 [] [] [] [(6,ptr d),(0,.iface 168 (ptr q)),(1,.iface 170 (ptr lk)),(3,.iface 217 (.agg #[.pointer (some (Addr.mk 1 168 none))]))] (λM=>bR (d) [.pointer (some (Addr.mk 1 170 none)),ptr u,.int .u64 150]::(M)) 1 7 1 [] λb b g b f f f=>bB F e a c b g 22 [0,0,0,3,1,0,0,1,0,0,0,1,3,0,0,1] [3] [] 8 (.bool true) (λM=>bR (d+1) [ptr q]::(bh 2 (0,0) (ptr q) (M))) 2 29 3 [] λa c b b=>K a c.sat.tail.tail.tail (by omega)
theorem Wl(F:aB prog I (DX D) J)(f:HB B D){lk:Nat}(b:Has C (oR 0 0 [.iface 217 (.agg #[.pointer (some ⟨1,121,none⟩)])] false))(e:Sat D w (bR lk [v]::C))(a:B<=w.heap.size)(K:∀a,Sat D a (bR lk [ptr q]::C)->w.heap.size<=a.heap.size->J (G (O.finish (.bool true)) H) a):
 J (G (Frame.enter prog 65 #[.iface 168 (ptr q),.iface 170 (ptr lk)] .normal) (O::H)) w:=by
 replace e:=e.get b.cons;refine cJ func65 e 42 λa a b a a d c h g=>aq F f a c h 73 [0,0,0,3,0,0,0,3,0,0,0,3,1,0,0,1,2,0,0,1,0,0,0,3] [1,1,1,1,1,3,3,3,3,1] [] [(40,.iface 217 (.agg #[.pointer (some (Addr.mk 1 168 none))])),(39,.agg #[.pointer (some (Addr.mk 1 170 none)),ptr b,.int .u64 150]),(38,.iface 170 (ptr lk)),(37,.iface 168 (ptr q))] (λM=>bR (b+1) [.pointer (some (Addr.mk 1 170 none)),ptr b,.int .u64 150]::(bR (b) [ptr lk]::(M))) 2 73 16 [] λc c g c h h h=>bu F a c g 41 95 #[.iface 168 (ptr q),.iface 170 (ptr lk),.agg #[.pointer (some (Addr.mk 1 170 none)),ptr b,.int .u64 150],.iface 217 (.agg #[.pointer (some (Addr.mk 1 168 none))])] λc c=>Ol (u:=b) (v:=v) F f (Sat.BC (A:=[bR b [ptr lk]]) g.sat.tail) (by omega) λb g b=>c _ _ _ g λb b g b c=>bB F f a d b g 2 [] [] [] 4 (.bool true) (λM=>M) 0 76 16 [] λa c b b=>K a c.sat (by omega)
theorem Oj(F:aB prog I (DX D) J)(e:HB B D){lk:Nat}(b:Sat D w C)(a:B<=w.heap.size)(K:∀a,Sat D a C->w.heap.size<=a.heap.size->J (G (O.finish (.bool false)) H) a):
 J (G (Frame.enter prog 65 #[.nilIface,.iface 170 (ptr lk)] .normal) (O::H)) w:=by
 refine cJ func65 b 42 λa a a a b c a f d=>bB F e b c a f 15 [] [3] [] 4 (.bool false) (λM=>M) 0 15 3 [] λa c b b=>K a c.sat (by omega)
theorem Iu(e:iN):∀u∈qg e,u.oneCell'=true:=by intro u a;simp[qg]at a;rcases a with rfl|rfl|rfl<;>rfl
theorem BJ(F:aB prog I (DX D) J)(m:HB B D){bb:aC}(c:bb.kind=.normal)(U:bb.fn=55){O:aC}{H:cO}{C:aW}(hC:Has C (oR 0 0 [.iface 217 (.agg #[.pointer (some ⟨1,121,none⟩)])] false)){lk:Nat}(f:Nat->iN):
 ∀(ch:List iN)(n:Nat)(e v:ay)(g:eP)(cap:Nat)(vs:eX),(∀j,j<ch.length->ch.getD j ⟨0,0,0⟩=f (n+j))->n+ch.length<1000000->Yu C e ch->∀W w Z,W.defers=[]->B<=Z->w.heap.size=Z->
   St D Z 29 [(4,ptr lk),(3,.slice g n cap),(0,e)] (bR lk [v]::vR g 3 (λj=>qg (f j)) n cap 48::sR g 3 vs n cap::C) 0 W w->Vc D g n cap->
   (∀p b d B,Sat D B (vR p 3 (λj=>qg (f j)) (n+ch.length) b 48::sR p 3 d (n+ch.length) b::C)->Vc D p (n+ch.length) b->w.heap.size<=B.heap.size->J (G (O.finish (.slice p (n+ch.length:Nat) b)) H) B)->
   J (G (bb.at W (pc prog 55 15 [] [])) (O::H)) w
 |[],n,e,v,g,cap,vs,hf,hl,he,W,w,Z,Q,hle,P9,S0,hv,K=>by
  have he':e=.nilIface:=he;subst he';refine aq F m c Q S0 5 [] [] [] [(6,.iface 170 (ptr lk)),(5,.nilIface),(4,ptr lk),(3,.slice g n cap)] (λM=>M) 0 20 1 [] λa1 w1 Y P zS Dx o9=>bu F c P Y 7 65 #[.nilIface,.iface 170 (ptr lk)] λyS l=>Oj F m Y.sat (by omega) λw2 S yP=>l _ _ _ S λa2 B2 S2 N tM=>bB F m c U N S2 8 [] [1] [] 2 (.slice g n cap) (λM=>M) 0 29 2 [] λw3 S3 YF yO=>K g cap vs w3 S3.sat.tail hv (by omega)
 |x::ch,n,e,v,g,cap,vs,hf,hl,he,W,w,Z,Q,hle,P9,S0,hv,K=>by
  obtain⟨q,V,rfl,h1,S⟩:=he;have p:=S;simp only[gB]at hl K;refine aq F m c Q S0 5 [] [] [] [(6,.iface 170 (ptr lk)),(5,.iface 168 (ptr q)),(4,ptr lk),(3,.slice g n cap)] (λM=>M) 0 20 1 [] λa1 w1 Y P zS Dx o9=>bu F c P Y 7 65 #[.iface 168 (ptr q),.iface 170 (ptr lk)] λyS l=>Wl F m hC.cons.cons Y.sat (by omega) λw2 p yP=>l _ _ _ (p.get h1.cons.cons.cons) λa2 B2 S2 N tM=>aq F m c N S2 6 [1,0,0,1,0,0,0,1,1,0,0,1,0,0,1,1,1,0,0,1,0,0,2,1] [3] [15] [(22,.slice (some ⟨B2,0,none⟩) 1 1),(8,.slice g n cap),(4,ptr lk)] (λM=>bR (B2) [i6 x.k,i6 x.l,i6 x.n]::(M)) 1 27 3 [15] λg w3 S3 L YF yO g=>Wn F (λa wr z=>m a wr (by omega)) c 8 22 23 44 48 3 24 3 4 0 (by kernel_rfl) (by kernel_rfl) (by kernel_rfl) (by decide) rfl rfl rfl rfl (by decide) rfl hv (λ_ _=>rfl) rfl (Iu x) (az _) (by simp only[maxLen];omega) (by omega) S3 λr b a d a4 w4 A KU E=>?_;have g:=A.size;have hfx:x=f n:=by have:=hf 0 (by simp);simpa using this
  have VM:Sat D w4 (bR B2 (qg x)::oR q 0 [i6 x.k,i6 x.l,i6 x.n,V] false::bR lk [ptr q]::vR (some ⟨r,0,none⟩) 3 (λj=>qg (f j)) (n+1) b 48::sR (some ⟨r,0,none⟩) 3 d (n+1) b::C):=A.sat.re 3 rfl rfl (λj=>qg (f j)) λj hj i _=>by
   show(qg (f j)).getD i undef=(a j).getD i undef;have a:j<n+1:=hj;by_cases e:j=n
   .subst e;rw[A.new,<-hfx]
   .rw[A.old j (by omega)]
  have S4:St D w4.heap.size 29 _ _ 0 a4 w4:=⟨KU,VM,rfl⟩;have a:a4.defers=[]:=E.trans L;generalize hB4:w4.heap.size=B4 at*;rw[show jB (pc prog 55 27 (Bo 3) [15])=pc prog 55 28 [true] [15] by kernel_rfl];have hee:V=.nilIface\/∃R,V=.iface 168 (ptr R):=by
   cases ch with
   |nil=>exact .inl S
   |cons y ch=>obtain⟨R,_,h,_⟩:=S;exact .inr ⟨R,h⟩
  have t:∀s o,s.defers=[]->o.heap.size=B4->St D B4 29 [(4,ptr lk),(3,.slice (some ⟨r,0,none⟩) (n+1) b),(0,V)] (bR lk [ptr q]::vR (some ⟨r,0,none⟩) 3 (λj=>qg (f j)) (n+1) b 48::sR (some ⟨r,0,none⟩) 3 d (n+1) b::C) 0 s o->J (G (bb.at s (pc prog 55 15 [] [])) (O::H)) o:=λs o k u X=>by
   refine BJ F m c U hC f ch (n+1) V (ptr q) _ b d (λj hj=>?_) (by omega) S s o B4 k (by omega) u X A.vc λf a d g h6 T h=>?_
   .have:=hf (j+1) (by simp;omega);rw[show n+1+j=n+(j+1) by omega,<-this];simp
   .have e:n+1+ch.length=n+(ch.length+1):=by omega
    rw[e]at h6 T;rw[e];exact K f a d g h6 T (by omega)
  rcases hee with rfl|⟨R,rfl⟩
  .refine aq F m c E S4 11 [2,0,0,1,1,0,3,1] [] [] [(0,.nilIface),(3,.slice (some ⟨r,0,none⟩) (n+1) b),(4,ptr lk)] (λM=>M) 0 39 3 [15] λs o X k u d e=>?_;rw[show pc prog 55 39 (Bo 3) [15]=pc prog 55 15 [] [] by kernel_rfl];have a:=X.dB [(4,ptr lk),(3,.slice (some ⟨r,0,none⟩) (n+1) b),(0,.nilIface)] (by kernel_rfl);exact t s o (k.trans L) (by omega) ⟨a.env,a.sat.tail.tail,a.sz⟩
  .refine aq F m c E S4 11 [2,0,0,1,1,0,3,1] [] [] [(0,.iface 168 (ptr R)),(3,.slice (some ⟨r,0,none⟩) (n+1) b),(4,ptr lk)] (λM=>M) 0 39 3 [15] λs o X k u d e=>?_;rw[show pc prog 55 39 (Bo 3) [15]=pc prog 55 15 [] [] by kernel_rfl];have a:=X.dB [(4,ptr lk),(3,.slice (some ⟨r,0,none⟩) (n+1) b),(0,.iface 168 (ptr R))] (by kernel_rfl);exact t s o (k.trans L) (by omega) ⟨a.env,a.sat.tail.tail,a.sz⟩
theorem JB(F:aB prog I (DX D) J)(p:HB B D)(t:Has C (oR 0 0 [.iface 217 (.agg #[.pointer (some ⟨1,121,none⟩)])] false))(i:ch.length<1000000){e:ay}(l:Yu C e ch)(k:ch≠[])(m:Sat D w C)(i:B<=w.heap.size)(K:∀c b d i,Sat D i (vR c 3 (λj=>qg (ch.getD j ⟨0,0,0⟩)) ch.length b 48::sR c 3 d ch.length b::C)->Vc D c ch.length b->w.heap.size<=i.heap.size->J (G (O.finish (.slice c ch.length b)) H) i):
 J (G (Frame.enter prog 55 #[e] .normal) (O::H)) w:=by
 obtain⟨q,rfl⟩:∃q,e=.iface 168 (ptr q):=by
  cases g:ch with
  |nil=>exact absurd g k
  |cons y ch=>rw[g]at l;obtain⟨q,_,h,_⟩:=l;exact⟨q,h⟩
 refine cJ func55 m 29 λe e o e e m i n k=>aq F p e i n 15 [] [] [] [(4,ptr o),(3,.slice none 0 0),(0,.iface 168 (ptr q))] (λM=>bR (o) [.pointer none]::(M)) 1 15 1 [] λu i q k n n n=>?_;have n:Sat D i (bR o [.pointer none]::vR none 3 (λj=>qg (ch.getD j ⟨0,0,0⟩)) 0 0 48::sR none 3 (λ_=>[]) 0 0::C):=((Sat.ff (Sat.ff q.sat (r:=sR none 3 (λ_=>[]) 0 0) rfl rfl) (r:=vR none 3 (λj=>qg (ch.getD j ⟨0,0,0⟩)) 0 0 48) rfl rfl).perm (eY (l₁:=[_,_])));have s:0+ch.length=ch.length:=bK _;refine BJ F p e m t (λj=>ch.getD j ⟨0,0,0⟩) ch 0 _ (.pointer none) none 0 (λ_=>[]) (λj _=>by rw[bK]) (by omega) l u i i.heap.size k (by omega) rfl ⟨q.env,n,rfl⟩ ⟨.inl ⟨rfl,rfl,rfl⟩,az _,gl _,λa h=>by cases h⟩ λc b d a r f e=>?_;rw[s]at r f;rw[s];exact K c b d a r f (by omega)
def WA(C:aW)(a:ay)(b:Bk):Prop:=(b.k=1/\a=.agg #[i6 b.n,.nilIface,.nilIface])\/(b.k=2/\∃q,a=.agg #[i6 0,.iface 168 (ptr q),.nilIface]/\Yu C (.iface 168 (ptr q)) b.ch)\/(b.k=3/\a=.agg #[i6 0,.nilIface,.iface 166 (i6 b.n)])
theorem Bs{j:Nat}(h:Fin V P m (some (t,j,some b)) L):G5 b/\qm V t L:=by
 cases m with
 |zero=>exact h.elim
 |succ m=>exact⟨(h.2.2.1 b rfl).1,h.1⟩
theorem R5(W:jF E o P t){p:Q}{s:PS}(C:Cn E o t p s w v R)(hf:Fin o.V P m (some (t,0,none)) s.l)(Ts:m<=E.pS p)(K:∀V n J w' U X a b,V<m->V<=E.pS n->Cn E o t n J w' U (X++R)->Fin o.V P V (some (t,0,some b)) J.l->WA X a b->E.Ψ n (G (c.finish a) H) w'):
 E.Ψ p (G (Frame.enter prog 52 #[Dv o 0,ptr (o.T t)] .normal) (c::H)) w:=by
 have F:=W.f p;have I:=W.hB p;have a:=C.bd;have hS:=C.sat;have IH:=Bz W o.V.nl 0 (bK _);obtain⟨ty,a,IZ⟩:=xT o 0;rw[a];unfold dV at IH;generalize iq o.V 0=gf at*;refine cJ func52 hS 15 λbb a l hn j qh a S0 w=>aq F I j a S0 7 [] [] [] [(5,.func (Fn.func 64) #[] #[ptr l]),(4,ptr l),(0,.iface ty (ptr (o.lb 0))),(1,ptr (o.T t))] (λM=>bR (l) [i6 0,.nilIface,.nilIface]::(M)) 1 7 1 [] λa a S1 a w w w=>Wc F hn a 64 [ptr l] (by kernel_rfl) (by kernel_rfl) (by kernel_rfl) S1 λa w a=>aq F I j a w 5 [] [] [] [(8,ptr (o.T t)),(7,.iface ty (ptr (o.lb 0))),(4,ptr l)] (λM=>M) 1 13 1 [] λa w3 S3 a w w w=>GM F j a 9 gf #[ptr (o.lb 0),ptr (o.T t)] (by rcases IZ with ⟨rfl,rfl⟩|⟨rfl,rfl⟩|⟨rfl,rfl⟩|⟨rfl,rfl⟩|⟨rfl,rfl⟩|⟨rfl,rfl⟩<;>kernel_rfl) (by kernel_rfl) (by decide) S3 λO XK=>?_;have C3:Cn E o t p s w3 v ([bR l [i6 0,.nilIface,.nilIface]]++R):=⟨S3.sat.perm (gY (A:=pM s)),C.pv,C.qi,C.fl.cons rfl,C.eH.cons,by omega,C.gu,C.hk,C.ln⟩;refine IH m p s w3 v _ O (c::H) C3 hf Ts λV n J w' U X r b Y Z a L p m _=>?_;obtain⟨Hj,m⟩:=Bs L;have m:=a.bd;replace F:=W.f n;replace I:=W.hB n;have hM:=a.sat.perm (gM (A:=pM J));have x:∀m,Sat (E.Ok n) m (pM J++(dO (o.T t) U false::((X++R)++E.P n J)))->w'.heap.size<=m.heap.size->Cn E o t n J m U (X++R):=λm r m=>⟨r,a.pv,a.qi,a.fl.OC,C.eH.app X,by omega,a.gu,a.hk,a.ln⟩
 rcases p with ⟨hb,rfl⟩|⟨hb,e,rfl,he⟩|⟨hb,rfl⟩
 .refine XK.ret _ _ _ _ _ hM λa5 B5 S5 D Y5=>aq F I j D S5 13 [0,0,0,2,0,0,0,3,0,0,0,3] [] [] [(4,ptr l)] (λM=>bh 0 (0,0) (i6 b.n) (M)) 0 27 1 [] λa6 w6 S6 DE YG Hf TI=>Mj F (by kernel_rfl) DE Hr f64 func64 _ rfl (by kernel_rfl) 3 (by kernel_rfl) S6 λa7 S7 B=>qk F I B S7 1 [] [] [] [(0,ptr l)] id 0 1 1 [] [] [] [] λa8 w8 S8 A FN IV Ro=>Td F 1 (by kernel_rfl) (by kernel_rfl) (by decide) rfl S8 λa9 S9 g=>?_;rw[A]at g;refine qk F I g S9 3 [0,0,2,1] [] [] [] id 0 5 1 [] [] [] [] λDq f k i N S T=>NW F (by kernel_rfl) i f64 func64 (by kernel_rfl) ?_;refine G6 F (a:=⟨a6.tmps,[]⟩) (N:=15) (E:=[(4,ptr l)]) ⟨S6.env.sz,S6.env.val⟩ k.sat j qh rfl [(0,(0,0),true),(0,(0,1),true),(0,(0,2),true)] (.agg #[i6 b.n,.nilIface,.nilIface]) (by kernel_rfl) (by kernel_rfl) ?_;exact K V n J f U X _ b Y Z (x f k.sat.tail (by omega)) L (.inl ⟨hb,rfl⟩)
 .have qM:b.ch≠[]:=by
   rcases Hj.2.2 with ⟨z,_⟩|⟨_,_,z⟩|⟨z,_⟩
   .omega
   .exact z
   .omega
  obtain⟨q,rfl⟩:∃q,e=.iface 168 (ptr q):=by
   cases mQ:b.ch with
   |nil=>exact absurd mQ qM
   |cons y ch=>rw[mQ]at he;obtain⟨q,_,h,_⟩:=he;exact⟨q,h⟩
  refine XK.ret _ _ _ _ _ hM λa5 B5 S5 D Y5=>aq F I j D S5 13 [0,0,0,2,0,0,0,3,0,0,0,3] [] [] [(4,ptr l)] (λM=>bh 0 (0,1) (.iface 168 (ptr q)) (M)) 0 27 1 [] λa6 w6 S6 DE YG Hf TI=>Mj F (by kernel_rfl) DE Hr f64 func64 _ rfl (by kernel_rfl) 3 (by kernel_rfl) S6 λa7 S7 B=>qk F I B S7 1 [] [] [] [(0,ptr l)] id 0 1 1 [] [] [] [] λa8 w8 S8 A FN IV Ro=>Td F 1 (by kernel_rfl) (by kernel_rfl) (by decide) rfl S8 λa9 S9 g=>?_;rw[A]at g;refine qk F I g S9 3 [0,0,2,1] [] [] [] id 0 5 1 [] [] [] [] λDq f k i N S T=>NW F (by kernel_rfl) i f64 func64 (by kernel_rfl) ?_;refine G6 F (a:=⟨a6.tmps,[]⟩) (N:=15) (E:=[(4,ptr l)]) ⟨S6.env.sz,S6.env.val⟩ k.sat j qh rfl [(0,(0,0),true),(0,(0,1),true),(0,(0,2),true)] (.agg #[i6 0,.iface 168 (ptr q),.nilIface]) (by kernel_rfl) (by kernel_rfl) ?_;exact K V n J f U X _ b Y Z (x f k.sat.tail (by omega)) L (.inr (.inl ⟨hb,q,rfl,he⟩))
 .obtain⟨a5,t5,rfl,D,Rc⟩:=XK.NO;show E.Ψ n (G ((bb.at a5 t5).raise (je (.iface 166 (i6 b.n)))) (c::H)) w';rw[raise_at hn.m];refine Tc F D Hr f64 func64 _ rfl (by kernel_rfl) 3 (by kernel_rfl) hM λa7 a S7 B a=>qk F I B S7 1 [] [] [] [(0,ptr l)] id 0 1 1 [] [] [] [] λa8 w8 S8 A FN IV Ro=>W3 F (v:=.iface 166 (i6 b.n)) 1 (by kernel_rfl) (by kernel_rfl) (by decide) rfl S8 λa9 S9 g=>?_;rw[A]at g;refine qk F I g S9 3 [0,0,2,1] [] [] [] (λM=>bh 0 (0,2) (.iface 166 (i6 b.n)) (M)) 0 5 1 [] [] [] [] λDq f k i N S T=>BC F (b:=bb) (a':=⟨a5.tmps,[]⟩) (todo':=t5) (v:=.iface 166 (i6 b.n)) (by kernel_rfl) i f64 func64 (by kernel_rfl) ?_;have c:aR [(4,ptr l)] 15 (⟨a5.tmps,[]⟩:Act):=⟨Rc.sz,λd u a=>Rc.val d u (fy [(4,ptr l)] _ (by kernel_rfl) d u a)⟩;refine G6 F c k.sat j qh rfl [(0,(0,0),true),(0,(0,1),true),(0,(0,2),true)] (.agg #[i6 0,.nilIface,.iface 166 (i6 b.n)]) (by kernel_rfl) (by kernel_rfl) ?_;exact K V n J f U X _ b Y Z (x f k.sat.tail (by omega)) L (.inr (.inr ⟨hb,rfl⟩))
theorem Sat.chain{b:eP}{cap:Nat}{M:aW}(h:Sat D w (vR b 3 (λj=>qg (ch.getD j ⟨0,0,0⟩)) ch.length cap 48::M)){a:Addr}(c:b=some a):Sat D w (gQ a ch::M):=by
 subst c;exact h.G7 0 rfl (gQ a ch) (λj a=>⟨a,rfl,rfl⟩) (λz=>by cases z) rfl
theorem PS.P2{s:PS}{k:PK}(h:s.k=k):∃a:PS,s={a with k:=k}:=⟨s,by cases s;simp at h;subst h;rfl⟩
theorem Ob(W:jF E o P t){p:Q}{s:PS}(C:Cn E o t p s w v R)(hf:Fin o.V P m (some (t,0,none)) s.l)(S:m<=E.pS p)(K:∀A f d k y X b T U Z,A<m->A<=E.pS f->Cn E o t f d k y (X++R)->Fin o.V P A (some (t,0,some b)) d.l->fu X (.slice T U Z) b.ch->E.Ψ f (G (c.finish (.agg #[i6 d.l.now,i6 b.k,i6 b.n,.slice T U Z])) H) k):
 E.Ψ p (G (Frame.enter prog 38 #[Dv o 0,ptr (o.T t)] .normal) (c::H)) w:=by
 have F:=W.f p;have J:=W.hB p;have c:=C.bd;have G:=C.sat;obtain⟨m,c,w⟩:=xT o 0;rw[c];refine cJ func38 G 34 λw w L w e I w T G=>aq F J e w T 8 [] [] [] [(7,ptr (o.T t)),(6,.iface m (ptr (o.lb 0))),(4,ptr L),(1,ptr (o.T t))] (λM=>bR (L) [i6 0,i6 0,i6 0,.slice none 0 0]::(M)) 1 8 1 [] λw T G w U U U=>GM F e w 8 52 #[.iface m (ptr (o.lb 0)),ptr (o.T t)] (by kernel_rfl) (by kernel_rfl) (by decide) G λw l=>?_;rw[show(.iface m (ptr (o.lb 0)):ay)=Dv o 0 from c.symm];have c:Cn E o t p s T v ([bR L [i6 0,i6 0,i6 0,.slice none 0 0]]++R):=⟨G.sat.perm (gY (A:=pM s)),C.pv,C.qi,C.fl.cons rfl,C.eH.cons,by omega,C.gu,C.hk,C.ln⟩;refine R5 W c hf S λA f d k y X a b B D j n ha=>?_;obtain⟨d,rfl⟩:=PS.P2 j.hk;obtain⟨u,a⟩:=Bs n;have a:=j.bd;replace F:=W.f f;replace J:=W.hB f;have Y:=(j.sat.perm (gM (A:=pM {d with k:=o}))).get ((((((C.eH.nH t W.tn).app X).pre _).cons).app (pM {d with k:=o})).cons);have i:∀x,Sat (E.Ok f) x (pM {d with k:=o}++(dO (o.T t) y false::((X++R)++E.P f {d with k:=o})))->k.heap.size<=x.heap.size->Cn E o t f {d with k:=o} x y (X++R):=λx a V=>⟨a,j.pv,j.qi,j.fl.OC,C.eH.app X,by omega,j.gu,j.hk,j.ln⟩
 have N:b.k≠2->b.ch=[]:=λa=>by
  rcases u.2.2 with ⟨_,z⟩|⟨z,_⟩|⟨_,z⟩
  .exact z
  .exact absurd z a
  .exact z
 rcases ha with ⟨O,rfl⟩|⟨O,q,rfl,he⟩|⟨O,rfl⟩
 .refine l.ret _ _ _ _ _ Y λa2 U T k w=>aq F J e k T 28 [0,0,0,3,0,0,2,1,0,0,1,1,1,0,0,1,3,0,0,1,0,0,0,1,2,0,0,4] [1,1] [4] [(4,ptr L)] (λM=>bR (U) [i6 b.n,.nilIface,.nilIface]::(bh 1 (0,2) (i6 b.n) (bh 1 (0,1) (i6 1) (bh 1 (0,0) (i6 d.l.now) (M))))) 1 37 4 [4] λZ s p j v G S=>cC F p e I j [2,0,0,4] (.agg #[i6 d.l.now,i6 1,i6 b.n,.slice none 0 0]) ?_;have h:=K A f _ s y X b none 0 0 B D (i s p.sat.tail.tail.tail (by omega)) n (.inl ⟨rfl,N (by omega)⟩);rw[O]at h;exact h
 .refine l.ret _ _ _ _ _ Y λa2 U T k w=>aq F J e k T 23 [0,0,0,3,0,0,2,1,0,0,1,1,1,0,0,1,3,0,0,1,0,0,1,1] [1,3] [4] [(26,.iface 168 (ptr q)),(24,i6 d.l.now),(4,ptr L)] (λM=>bR (U) [i6 0,.iface 168 (ptr q),.nilIface]::(M)) 1 32 6 [4] λZ s p j v G S=>bu F e j p 27 55 #[.iface 168 (ptr q)] λa q=>?_;have a:b.ch≠[]:=by
   rcases u.2.2 with ⟨z,_⟩|⟨_,_,z⟩|⟨z,_⟩
   .omega
   .exact z
   .omega
  have W:b.n=0:=by
   rcases u.2.2 with ⟨z,_⟩|⟨_,z,_⟩|⟨z,_⟩
   .omega
   .exact z
   .omega
  refine JB F J ((((((C.eH.err.app X).pre _).cons).app (pM {d with k:=o})).cons).cons.cons) u.1 (he.up λr c=>(((((c.pre R).pre _).cons).app (pM {d with k:=o})).cons).cons.cons) a p.sat (by omega) λm c r r C u r=>q _ _ _ C λq q C q r=>aq F J e q C 3 [4,0,0,4] [] [] [(4,ptr L)] (λM=>bh 4 (0,3) (.slice m (List.length b.ch) c) (bh 4 (0,1) (i6 2) (bh 4 (0,0) (i6 d.l.now) (M)))) 0 36 6 [4] λq x C q r V r=>cC F C e I q [4,0,0,4] (.agg #[i6 d.l.now,i6 2,i6 0,.slice m (List.length b.ch) c]) ?_;obtain⟨r,q⟩:∃r,m=some r:=by
   rcases u.row with ⟨_,z,_⟩|⟨g,z,_⟩
   .exact absurd (LI.1 z) a
   .exact⟨_,z⟩
  have g:Sat (E.Ok f) x (gQ r b.ch::(pM {d with k:=o}++(dO (o.T t) y false::((X++R)++E.P f {d with k:=o})))):=(C.sat.chain q).sub (.cons_cons _ (.cons _ (.cons _ (.cons _ (.cons _ (List.Sublist.refl _))))));have a:=i x g.tail (by omega);have h:=K A f _ x y (gQ r b.ch::X) b m b.ch.length c B D ⟨g.perm (gY (A:=pM {d with k:=o})),a.pv,a.qi,a.fl.cons rfl,a.eH.cons,a.bd,a.gu,a.hk,a.ln⟩ n (.inr ⟨r,c,0,by rw[q],rfl⟩);rw[O,W]at h;exact h
 .refine l.ret _ _ _ _ _ Y λa2 U T k w=>aq F J e k T 39 [0,0,0,3,0,0,2,1,1,0,0,1,3,0,0,1,0,0,2,1,2,0,0,4] [3] [4] [(4,ptr L)] (λM=>bR (U) [i6 0,.nilIface,.iface 166 (i6 b.n)]::(bh 1 (0,2) (i6 b.n) (bh 1 (0,1) (i6 3) (bh 1 (0,0) (i6 d.l.now) (M))))) 1 28 3 [4] λZ s p j v G S=>cC F p e I j [2,0,0,4] (.agg #[i6 d.l.now,i6 3,i6 b.n,.slice none 0 0]) ?_;have h:=K A f _ s y X b none 0 0 B D (i s p.sat.tail.tail.tail (by omega)) n (.inl ⟨rfl,N (by omega)⟩);rw[O]at h;exact h
theorem Ji(h:Fin V P m (some (t,0,some b)) L):∃a,m=a+1/\qm V t L/\Fin V P a none (L.end_ t b):=by
 cases m with
 |zero=>exact h.elim
 |succ m=>
  obtain⟨a,b,b,c⟩:=h;simp only[LS.step,if_true]at c;exact⟨m,rfl,a,c⟩
abbrev PS.fin(s:PS)(t:Nat)(b:Bk)(h:ay):PS:={s with oh:=upd s.oh t h,l:=s.l.end_ t b}
theorem LQ(W:jF E o P t){p:Q}{s:PS}{D B I:Nat}(C:Cn E o t p s w v R)(S:Fin o.V P m (some (t,0,none)) s.l)(J:m<=E.pS p)(h1:Has R (oR B 0 [.slice (some ⟨o.O,0,none⟩) o.V.nc o.V.nc] false))(h2:Has R (oR I 0 [i6 t] false))(h3:Has R (oR D 0 [Dv o 0] false))(K:∀A g (d:PS) h q X (b:Bk) k l n,A<m->A<=E.pS g->Cn E o t g (d.fin t b (.slice k l n)) h q (X++R)->Fin o.V P A none (d.l.end_ t b)->(d.l.tk t).c=(t:Int)->fu X (.slice k l n) b.ch->E.Ψ g (G (c.finish (.tuple #[])) H) h):
 E.Ψ p (G (Frame.enter prog 37 #[ptr (o.T t),ptr D,ptr B,ptr I] .normal) (c::H)) w:=by
 have F:=W.f p;have hB:=W.hB p;have Y:=C.bd;have hS:=C.sat;have z:∀g d h q X,Cn E o t g d h q (X++R)->Sat (E.Ok g) h [oR B 0 [.slice (some ⟨o.O,0,none⟩) o.V.nc o.V.nc] false,oR I 0 [i6 t] false,oR D 0 [Dv o 0] false]:=by
  intro g d h q X a;refine a.sat.ED λr hr=>?_;simp only[ak,bH,or_false]at hr;rcases hr with rfl|rfl|rfl
  .exact Has.in h1
  .exact Has.in h2
  .exact Has.in h3
 refine cJ func37 hS 11 λc c c c u V T m c=>TL W.f aK W.hB u 5 4 [oR B 0 [.slice (some ⟨o.O,0,none⟩) o.V.nc o.V.nc] false,oR I 0 [i6 t] false,oR D 0 [Dv o 0] false] (Hq [0,0,0,1,1,0,0,1,2,0,0,1]) [(7,Dv o 0),(8,ptr (o.T t))] 9 38 #[Dv o 0,ptr (o.T t)] (by kernel_rfl) (by kernel_rfl) (by kernel_rfl) (by kernel_rfl) (by kernel_rfl) m (z p s w v [] C) Y λO c c m Z=>Ob W {C with sat:=c,bd:=by omega} S J λA g d h q X b k l n c c a N U=>?_;obtain⟨d,rfl⟩:=PS.P2 a.hk;obtain⟨m1,rfl,x,L⟩:=Ji N;have c:=a.bd;replace F:=W.f g;replace hB:=W.hB g;have m:=W.tn;refine Z.ret g _ h [] [(5,.slice (some ⟨o.O,0,none⟩) o.V.nc o.V.nc),(6,i6 t),(9,.agg #[i6 d.l.now,i6 b.k,i6 b.n,.slice k l n])] _ c (z g _ h q X a) a.sat (by kernel_rfl) (by kernel_rfl) λc c c h y c c=>?_;rw[T]at y;refine aX F hB u y h 3 [6,t,0,104] [2] [] [] (λM=>bh 6 (t,3) (.slice k l n) (bh 6 (t,2) (i6 b.n) (bh 6 (t,1) (i6 b.k) (bh 6 (t,0) (i6 d.l.now) (M))))) 0 4 1 [5] [] [((↑t:Int),o.V.nc)] [(4,(t,o.V.nc))] λc p m c h h h=>cC F m u V c [] (.tuple #[]) ?_;have h:(d.l.tk t).c.toNat=t:=by rw[x.tc];rfl
 refine K m1 g {d with k:=o} p q X b k l n (by omega) (by omega) ⟨m.sat.re 6 rfl rfl _ λj _ f S=>?_,⟨a.pv.jr,a.pv.en,a.pv.eo,a.pv.fb,a.pv.rm,a.pv.cx⟩,⟨a.qi.lt,a.qi.all,a.qi.pN,a.qi.ws,a.qi.cv,a.qi.wt⟩,a.fl,a.eH,by omega,a.gu.trans ⟨rfl,rfl,rfl,rfl,rfl,rfl,rfl,rfl,rfl,λi c=>?_,λ_ _=>rfl,λi c=>⟨?_,?_⟩⟩,rfl,a.ln⟩ L x.tc U
 .refine Eq.trans ?_ (xj (C:=yL) (g:=λj=>(d.l.ou j,d.oh j)) (r:=(⟨d.l.now,b⟩,.slice k l n)) rfl rfl j f S);show(yL (upd d.l.ou (d.l.tk t).c.toNat ⟨d.l.now,b⟩ j,upd d.oh t (.slice k l n) j)).getD f undef=_;rw[h];unfold upd;by_cases e:j=t<;>simp[e]
 .show upd _ _ _ i=_;simp[upd,c]
 .show upd d.l.ou (d.l.tk t).c.toNat _ i=_;rw[h];simp[upd,c]
 .show upd _ _ _ i=_;simp[upd,c]
end Go.Proofs.YtobagnjnbmgidaaGreatDoor
