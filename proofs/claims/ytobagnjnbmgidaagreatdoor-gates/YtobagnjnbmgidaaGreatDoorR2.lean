import Derived.Test.YtobagnjnbmgidaaGreatDoorA1
set_option linter.all false
set_option maxHeartbeats 0
set_option maxRecDepth 100000
namespace Go.Proofs.YtobagnjnbmgidaaGreatDoor
open Go.Conc Go.RowKit Tryz
variable{g tg:Addr}{b:Bk}{l n:Int}{hc hl k t:Nat}{C M:aX}{w:aj}{cf:aE}{cs:cW}{ho:eN}
variable{main:Bool}{B:Nat}{Ok:dw}{Ψ:gi}
structure RS where
 gm:Nat
 la:Option Addr
 lc:Nat
 ca:Option Addr
 cc:Nat
 dH:Nat->Option Addr
 dU:Nat->Nat
 aa:Option Addr
 ac:Nat
 av:Nat->List Value
 ta:Option Addr
 tc:Nat
 tv:Nat->List Value
 wa:Option Addr
 wc:Nat
 wv:Nat->List Value
 wh:Nat->Value
 ua:Addr
 uc:Nat
 ga:Addr
 gb:Nat->Option Addr
 gc:Nat->Nat
 oa:Addr
 oc:Nat
 oh:Nat->Value
 ea:Option Addr
 ec:Nat
 vv:Nat->List Value
 V:Ev0
 l:LS
def mC(s:RS):List Value:=[.slice s.la s.V.nl s.lc,.slice s.ca s.V.nc s.cc,i6 s.l.now,.slice s.aa s.l.al s.ac,.slice s.ta s.l.tl s.tc,.slice s.wa s.l.wl s.wc,.slice (some s.ua) s.V.nc s.uc,.slice (some s.ga) s.V.nl s.V.nl,.slice (some s.oa) s.V.nc s.oc,.slice s.ea s.l.el s.ec]
def mR(s:RS):List aJ:=[bR s.gm (mC s),vR s.aa 5 (λj=>D5 (s.l.ag j)) s.l.al s.ac 93,sR s.aa 5 s.av s.l.al s.ac,vR s.ta 19 (λj=>Ff (s.l.tk j)) s.l.tl s.tc 131,sR s.ta 19 s.tv s.l.tl s.tc,vR s.wa 7 (λj=>rN (s.l.wt j,s.wh j)) s.l.wl s.wc 136,sR s.wa 7 s.wv s.l.wl s.wc,
 fR s.ua 1 (λj=>[i6 (s.l.us j)]) s.V.nc true,fR s.oa 4 (λj=>zm (s.l.ou j,s.oh j)) s.V.nc true,vR s.ea 5 (λj=>yR (s.l.ev j)) s.l.el s.ec 55,sR s.ea 5 s.vv s.l.el s.ec,fR (s.la.getD ⟨0,0,none⟩) 6 (λj=>qR (s.V.ly j)) s.V.nl false,fR (s.ca.getD ⟨0,0,none⟩) 2 (λj=>[i6 (s.V.st j),.slice (s.dH j) (s.V.nt j) (s.dU j)]) s.V.nc false,fR s.ga 8 (λj=>nN (s.l.gt j) (s.gb j) (s.gc j)) s.V.nl true]
structure RV(Ok:dw)(s:RS):Prop where
 a:Vc Ok s.aa s.l.al s.ac
 t:Vc Ok s.ta s.l.tl s.tc
 w:Vc Ok s.wa s.l.wl s.wc
 e:Vc Ok s.ea s.l.el s.ec
abbrev RS.dR(s:RS)(g' cap':Nat)(vs':fH)(L:LS):RS:={s with ea:=some ⟨g',0,none⟩,ec:=cap',vv:=vs',l:=L}
theorem RS.jI{s:RS}(h:s.ta=some g):∃a:RS,s={a with ta:=some g}:=⟨s,by cases s;simp at h;subst h;rfl⟩
theorem RS.yp{s:RS}(h:s.la=some g):∃a:RS,s={a with la:=some g}:=⟨s,by cases s;simp at h;subst h;rfl⟩
theorem RS.Mp{s:RS}(h:s.ca=some g):∃a:RS,s={a with ca:=some g}:=⟨s,by cases s;simp at h;subst h;rfl⟩
theorem kS(F:aC prog main (DX Ok) Ψ)(hB:HB B Ok){s:RS}{q:Int}(L:Sat Ok w (mR s++C))(f:RV Ok s)(v:B<=w.heap.size)(d:s.l.el<1000000000)(m:s.ta=some tg)(I:t<s.l.tl)(K:∀g' cap' vs' w',Sat Ok w' (mR (s.dR g' cap' vs' (s.l.say t l q n))++C)->RV Ok (s.dR g' cap' vs' (s.l.say t l q n))->w.heap.size<=w'.heap.size->Ψ (G (cf.finish (.tuple #[])) cs) w'):
 Ψ (G (Frame.enter prog 82 #[ptr s.gm,i6 t,i6 l,i6 q,i6 n] .normal) (cf::cs)) w:=by
 obtain⟨s,rfl⟩:=RS.jI m;refine mK f82 func82 _ rfl λb a c u J N=>?_
 have e:HB w.heap.size Ok:=λa wr h=>hB a wr (aT v h)
 have S:St Ok w.heap.size 39 [(0,ptr s.gm),(1,i6 t),(2,i6 l),(3,i6 q),(4,i6 n)] _ 0 a w:=⟨N,L,rfl⟩;have hl:s.l.el<1000000000:=d;have H:t<s.l.tl:=I;generalize w.heap.size=B' at*;refine bk F aB e c 4 [(0,(0,2),true),(0,(0,4),true),(3,(t,0),false),(0,(0,0),true),(0,(0,1),true),(0,(0,2),true),(0,(0,3),true),(0,(0,4),true)] [(true,false)] [17] [(10,ptr B'),(0,ptr s.gm)] (bR B' (yR ⟨s.l.now,(s.l.tk t).c,l,q,n⟩)::·) 1 4 [] [17] [] [((t:Int),s.l.tl)] [(t,s.l.tl)] (by kernel_rfl) (by kernel_rfl) (by simp) (by simp;omega) (by simp;omega) S λW T R r _ _=>?_
 refine VE [] [] F aB e c 8 [(1,(0,9),true),(0,(0,0),true),(0,(0,1),true),(0,(0,2),true),(0,(0,3),true),(0,(0,4),true)] [] [(27,ptr s.gm)] (bR (B'+1) (yR ⟨s.l.now,(s.l.tk t).c,l,q,n⟩)::·) 2 [] [] [] 32 34 35 33 55 5 40 11 12 0 (by kernel_rfl) (by kernel_rfl) (by kernel_rfl) (by kernel_rfl) (by kernel_rfl) (by kernel_rfl) (λ_ _ h=>by cases h) rfl rfl (by decide) (by kernel_rfl) (by simp) (by simp) (by simp) R rfl rfl (by decide) rfl f.e (λ_ _=>rfl) rfl (BR _) (by omega) (by simp only[maxLen];omega) (by dsimp only;omega) λg' cap' j vs' P i D A U x p=>?_
 have Q:St Ok i.heap.size 39 _ _ 0 P i:=⟨x,A.sat,rfl⟩;have E:=A.size;generalize i.heap.size=X at*;refine bk F aB (λa wr h=>hB a wr (by omega)) c 5 [(2,(0,9),true)] [] [] [] (λ_=>bR (B'+1) (yR ⟨s.l.now,(s.l.tk t).c,l,q,n⟩)::bR B' (yR ⟨s.l.now,(s.l.tk t).c,l,q,n⟩)::(cD (mR (RS.dR {s with ta:=some tg} g' cap' vs' (s.l.say t l q n))) 9 (vR (some ⟨g',0,none⟩) 5 j (s.l.el+1) cap' 55)++C)) 0 10 [] [17,9] [] [] [] (by kernel_rfl) (by kernel_rfl) (by simp) (by simp) (by simp) Q λV z y o O _=>?_
 refine cV F y c u (by rw[o,p,r,J]) [] (.tuple #[]) ?_;exact K g' cap' vs' z (y.sat.tail.tail.re 9 rfl rfl _ A.upd) ⟨f.a,f.t,f.w,A.vc⟩ (by have:=y.sz;omega)
theorem Jr(e:rj):∀u∈D5 e,u.oneCell'=true:=by intro u a;simp[D5]at a;rcases a with rfl|rfl|rfl|rfl|rfl<;>rfl
theorem NB(F:aC prog main (DX Ok) Ψ)(hB:HB B Ok){gm len cap:Nat}{v u s r q p o m i:ay}{sa:eN}{ag:Nat->rj}{vs:fH}{R:aX}(e:rj)(V:Sat Ok w (bR gm [v,u,s,.slice sa len cap,r,q,p,o,m,i]::vR sa 5 (λj=>D5 (ag j)) len cap 93::sR sa 5 vs len cap::R))(T:Vc Ok sa len cap)(I:B<=w.heap.size)(O:len<1000000000)(K:∀g' cap' vs' w',Sat Ok w' (bR gm [v,u,s,.slice (some ⟨g',0,none⟩) (len+1) cap',r,q,p,o,m,i]::vR (some ⟨g',0,none⟩) 5 (λj=>D5 (upd ag len e j)) (len+1) cap' 93::sR (some ⟨g',0,none⟩) 5 vs' (len+1) cap'::R)->
 Vc Ok (some ⟨g',0,none⟩) (len+1) cap'->w.heap.size<=w'.heap.size->Ψ (G (cf.finish (.tuple #[])) cs) w'):
 Ψ (G (Frame.enter prog 44 #[ptr gm,.agg #[i6 e.a,i6 e.t,i6 e.w,i6 e.c,.bool e.o]] .normal) (cf::cs)) w:=by
 refine mK f44 func44 _ rfl λb a c H U W=>?_
 have f:HB w.heap.size Ok:=λa wr h=>hB a wr (aT I h)
 have S:St Ok w.heap.size 14 [(0,ptr gm),(1,.agg #[i6 e.a,i6 e.t,i6 e.w,i6 e.c,.bool e.o])] _ 0 a w:=⟨W,V,rfl⟩;generalize w.heap.size=B' at*;refine bk F aB f c 4 [] [] [] [(3,ptr B'),(0,ptr gm)] (bR B' (D5 e)::·) 1 4 [] [] [] [] [] (by kernel_rfl) (by kernel_rfl) (by simp) (by simp) (by simp) S λa1 w1 S1 E _ _=>?_
 refine VE [] [] F aB f c 7 [(1,(0,3),true),(0,(0,0),true),(0,(0,1),true),(0,(0,2),true),(0,(0,3),true),(0,(0,4),true)] [] [(4,ptr gm)] (bR (B'+1) (D5 e)::·) 2 [] [] [] 8 10 11 84 93 5 40 3 4 0 (by kernel_rfl) (by kernel_rfl) (by kernel_rfl) (by kernel_rfl) (by kernel_rfl) (by kernel_rfl) (λ_ _ h=>by cases h) rfl rfl (by decide) (by kernel_rfl) (by simp) (by simp) (by simp) S1 rfl rfl (by decide) rfl T (λ_ _=>rfl) rfl (Jr e) (by omega) (by simp[maxLen];omega) (by omega) λg' cap' y vs' Y x P A hz J D=>?_
 have Z:St Ok x.heap.size 14 _ _ 0 Y x:=⟨J,A.sat,rfl⟩;have Q:=A.size;generalize x.heap.size=B2 at*;refine bk F aB (λa wr h=>hB a wr (by omega)) c 4 [(2,(0,3),true)] [] [] [] (cD · 2 (bR gm [v,u,s,.slice (some ⟨g',0,none⟩) (len+1) cap',r,q,p,o,m,i])) 0 9 [] [8] [] [] [] (by kernel_rfl) (by kernel_rfl) (by simp) (by simp) (by simp) Z λa3 N L z X _=>?_
 refine cV F L c H (by rw[z,D,E,U]) [] (.tuple #[]) ?_;have d:Sat Ok N (bR gm [v,u,s,.slice (some ⟨g',0,none⟩) (len+1) cap',r,q,p,o,m,i]::vR (some ⟨g',0,none⟩) 5 y (len+1) cap' 93::sR (some ⟨g',0,none⟩) 5 vs' (len+1) cap'::R):=L.sat.tail.tail;refine K g' cap' vs' N (d.re 1 rfl rfl _ A.upd) A.vc (by have:=L.sz;omega)
abbrev RS.mK(s:RS)(g' cap':Nat)(vs':fH)(L:LS):RS:={s with aa:=some ⟨g',0,none⟩,ac:=cap',av:=vs',l:=L}
theorem Ls(F:aC prog main (DX Ok) Ψ)(hB:HB B Ok){s:RS}(e:rj)(f:Sat Ok w (mR s++C))(c:RV Ok s)(d:B<=w.heap.size)(a:s.l.al<1000000000)(K:∀g' cap' vs' w',Sat Ok w' (mR (s.mK g' cap' vs' (s.l.put e))++C)->RV Ok (s.mK g' cap' vs' (s.l.put e))->w.heap.size<=w'.heap.size->Ψ (G (cf.finish (.tuple #[])) cs) w'):
 Ψ (G (Frame.enter prog 44 #[ptr s.gm,.agg #[i6 e.a,i6 e.t,i6 e.w,i6 e.c,.bool e.o]] .normal) (cf::cs)) w:=
 NB F hB e f c.a d a λg' cap' vs' w' j i h=>K g' cap' vs' w' j ⟨i,c.t,c.w,c.e⟩ h
theorem Jn(e:H7×Value)(h:e.2.oneCell'=true):∀u∈rN e,u.oneCell'=true:=by intro u a;simp[rN]at a;rcases a with rfl|rfl|rfl|rfl|rfl|rfl|rfl<;>first|rfl|exact h
abbrev RS.cY(s:RS)(g' cap':Nat)(vs':fH)(t:Nat)(l:Int):RS:={s with wa:=some ⟨g',0,none⟩,wc:=cap',wv:=vs',wh:=upd s.wh s.l.wl (.slice none 0 0),l:=s.l.cY t l}
theorem E7{f:Nat->H7}{g:CS}{i j:Nat}{x:H7}{y:ay}:rN (upd f i x j,upd g i y j)=rN (upd (λj=>(f j,g j)) i (x,y) j):=by
 unfold upd;by_cases h:j=i<;>simp[h]
theorem EZ(F:aC prog main (DX Ok) Ψ)(hB:HB B Ok){s:RS}{d:Int}(hS:Sat Ok w (mR s++C))(q:RV Ok s)(T:B<=w.heap.size)(y:s.l.wl<1000000000)(R:s.l.al<1000000000)(D:s.ta=some tg)(ht:t<s.l.tl)(jf:0<=d)(H:-4611686018427387904<=s.l.now+d)(E:s.l.now+d<4611686018427387904)(K:∀g' cap' vs' r c i w',Sat Ok w' (mR ((s.cY g' cap' vs' t l).mK r c i (s.l.wait t l d))++C)->RV Ok ((s.cY g' cap' vs' t l).mK r c i (s.l.wait t l d))->w.heap.size<=w'.heap.size->Ψ (G (cf.finish (i6 s.l.wl)) cs) w'):
 Ψ (G (Frame.enter prog 81 #[ptr s.gm,i6 t,i6 l,i6 d] .normal) (cf::cs)) w:=by
 obtain⟨s,rfl⟩:=RS.jI D;refine mK f81 func81 _ rfl λb a e Q hd hA=>?_
 have o:HB w.heap.size Ok:=λa wr h=>hB a wr (aT T h)
 have S:St Ok w.heap.size 49 [(0,ptr s.gm),(1,i6 t),(2,i6 l),(3,i6 d)] _ 0 a w:=⟨hA,hS,rfl⟩;have hl:s.l.wl<1000000000:=y;have WH:t<s.l.tl:=ht;have hw:IntKind.wrap .i64 (s.l.now+d)=s.l.now+d:=aA (by have:-4611686018427387904<=s.l.now+d:=H;omega) (by have:s.l.now+d<4611686018427387904:=E;omega);generalize w.heap.size=B' at*;refine bk F aB o e 24 [(0,(0,5),true),(0,(0,5),true)] [] [] [(23,.slice (some ⟨B',0,none⟩) 1 1),(19,.slice s.wa s.l.wl s.wc),(15,ptr s.gm),(9,i6 s.l.wl),(0,ptr s.gm),(1,i6 t),(3,i6 d)] (bR B' (rN (⟨t,l,false,false,⟨0,0,[]⟩⟩,.slice none 0 0))::·) 1 24 [] [] [] [] [] (by kernel_rfl) (by kernel_rfl) (by simp) (by simp) (by simp) S λa1 w1 X O _ _=>?_
 refine Y2 F o e 19 23 24 86 136 7 64 6 7 0 (by kernel_rfl) (by kernel_rfl) (by kernel_rfl) (by decide) rfl rfl rfl rfl (by decide) rfl q.w (λ_ _=>rfl) rfl (Jn _ rfl) (az _) (by simp only[maxLen];omega) (by dsimp only;omega) X λg' cap' x vs' a2 v A V N=>?_
 rw[show jY (pc prog 81 24 [] [])=pc prog 81 25 [] [] by kernel_rfl];have S2:St Ok v.heap.size 49 _ _ 0 a2 v:=⟨V,A.sat,rfl⟩;have fV:=A.size;have iH:=X.sz;generalize v.heap.size=B2 at*;have m:HB B2 Ok:=λa wr h=>hB a wr (by omega)
 refine bk F aB m e 34 [(1,(0,5),true),(1,(0,4),true),(4,(t,6),false),(1,(0,2),true)] [(true,false),(true,false)] [] [(46,.agg #[i6 (IntKind.wrap .i64 (s.l.now+d)),i6 t,i6 s.l.wl,i6 1,.bool false]),(37,ptr s.gm),(9,i6 s.l.wl)] (λ_=>bR B' (rN (⟨t,l,false,false,⟨0,0,[]⟩⟩,.slice none 0 0))::(cD (cD (mR (RS.cY {s with ta:=some tg} g' cap' vs' t l)) 3 {vR (some tg) 19 (λj=>Ff (s.l.tk j)) s.l.tl s.tc 131 with vl:=eH (λj f=>(Ff (s.l.tk j)).getD f undef) t 6 (i6 s.l.wl)}) 5 (vR (some ⟨g',0,none⟩) 7 x (s.l.wl+1) cap' 136)++C)) 0 59 [true] [] [(decide (d≥0),true)] [((t:Int),s.l.tl)] [(t,s.l.tl)] (by kernel_rfl) (by kernel_rfl) (by simp;omega) (by simp;omega) (by simp;omega) S2 λa3 Z p L _ _=>?_
 rw[hw]at p;have h3:Sat Ok Z (mR (RS.cY {s with ta:=some tg} g' cap' vs' t l)++C):=(p.sat.tail.re 3 rfl rfl _ λj _ f _=>fN rfl (show 6<19 by decide) j f).re 5 rfl rfl _ λj hj f hf=>(cP (List.getD · f undef) (E7 (f:=s.l.wt) (g:=s.wh))).trans (A.upd j hj f hf)
 refine Pp F e 47 44 #[ptr s.gm,.agg #[i6 (s.l.now+d),i6 t,i6 s.l.wl,i6 1,.bool false]] (by kernel_rfl) (by kernel_rfl) (by decide) p λzq P=>?_
 refine Ls F m (s:=RS.cY {s with ta:=some tg} g' cap' vs' t l) ⟨s.l.now+d,t,s.l.wl,1,false⟩ h3 ⟨q.a,q.t,A.vc,q.e⟩ (by have:=p.sz;omega) R λr c i u h4 z jP=>P _ _ λa4 U J=>?_
 have S4:St Ok u.heap.size 49 _ _ 0 a4 u:=⟨U,h4,rfl⟩;have gQ:=p.sz;generalize u.heap.size=B4 at*;refine yW F aB (λa wr h=>hB a wr (by omega)) e 6 [] [] [] [(8,i6 s.l.wl)] 66 [true] [] [] [] [] (by kernel_rfl) (by kernel_rfl) (by simp) (by simp) (by simp) S4 λa5 Y W I _=>?_
 refine cV F W e Q (by rw[I,J,L,N,O,hd]) [] (i6 s.l.wl) ?_;exact K g' cap' vs' r c i Y W.sat z (by have:=W.sz;omega)
abbrev RS.Zv(s:RS)(t:Nat):RS:={s with l:={s.l with tk:=upd s.l.tk t {s.l.tk t with e:=true}}}
theorem T0(F:aC prog main (DX Ok) Ψ)(hB:HB B Ok){s:RS}{c:Nat}(T:Sat Ok w (mR s++C))(D:B<=w.heap.size)(p:s.ta=some tg)(P:t<s.l.tl)(q:(s.l.tk t).f<0)(z:(s.l.tk t).c=c)(y:c<s.V.nc)(K:∀w',Sat Ok w' (mR {s with oh:=upd s.oh c (.slice ho hl hc),l:=s.l.end_ t b}++C)->w.heap.size<=w'.heap.size->Ψ (G (cf.finish (.tuple #[])) cs) w'):
 Ψ (G (Frame.enter prog 100 #[ptr s.gm,i6 t,lu b (.slice ho hl hc)] .normal) (cf::cs)) w:=by
 obtain⟨s,rfl⟩:=RS.jI p;refine mK f100 func100 _ rfl λbb a d A R U=>?_
 have i:HB w.heap.size Ok:=λa wr h=>hB a wr (aT D h)
 have S:St Ok w.heap.size _ [(0,ptr s.gm),(1,i6 t),(2,lu b (.slice ho hl hc))] _ 0 a w:=⟨U,T,rfl⟩;have O:t<s.l.tl:=P;have Q:(s.l.tk t).f<0:=q;have m:(s.l.tk t).c=c:=z;have I:c<s.V.nc:=y;generalize w.heap.size=B' at*;refine bk F aB i d 14 [(1,(0,4),true),(4,(t,5),false)] [(true,false)] [] [(5,ptr B'),(0,ptr s.gm),(1,i6 t)] (λ_=>bR B' [i6 b.k,i6 b.n,.slice ho hl hc]::(cD (mR (RS.Zv {s with ta:=some tg} t)) 3 {vR (some tg) 19 (λj=>Ff (s.l.tk j)) s.l.tl s.tc 131 with vl:=eH (λj f=>(Ff (s.l.tk j)).getD f undef) t 5 (.bool true)}++C)) 1 14 [] [] [] [((t:Int),s.l.tl)] [(t,s.l.tl)] (by kernel_rfl) (by kernel_rfl) (by simp) (by simp;omega) (by simp;omega) S λV N o x _ _=>?_
 replace o:St Ok B' _ _ (bR B' [i6 b.k,i6 b.n,.slice ho hl hc]::(mR (RS.Zv {s with ta:=some tg} t)++C)) 1 V N:=⟨o.env,o.sat.re 4 rfl rfl _ λj _ f _=>fN rfl (show 5<19 by decide) j f,o.sz⟩;have H:upd s.l.tk t {s.l.tk t with e:=true} t={s.l.tk t with e:=true}:=by simp[upd]
 refine yW F aB i d 27 [(1,(0,4),true),(4,(t,1),false),(1,(0,4),true),(4,(t,0),false)] [(true,false),(false,false),(true,false)] [] [(6,i6 (upd s.l.tk t {s.l.tk t with e:=true} t).c),(5,ptr B'),(0,ptr s.gm)] 41 [false] [] [(decide ((upd s.l.tk t {s.l.tk t with e:=true} t).f≥0),false)] [((t:Int),s.l.tl),((t:Int),s.l.tl)] [(t,s.l.tl),(t,s.l.tl)] (by kernel_rfl) (by kernel_rfl) (by simp[H];omega) (by simp;omega) (by simp;omega) o λY W J v _=>?_
 rw[H,show({s.l.tk t with e:=true}:PG).c=c from m]at J;refine bk F aB i d 5 [(1,(0,8),true),(1,(0,2),true),(0,(0,0),true),(0,(0,1),true),(0,(0,2),true),(9,(c,0),false),(9,(c,1),false),(9,(c,2),false),(9,(c,3),false)] [(true,false)] [17] [] (λ_=>bR B' [i6 b.k,i6 b.n,.slice ho hl hc]::(cD (mR {s with ta:=some tg,oh:=upd s.oh c (.slice ho hl hc),l:=s.l.end_ t b}) 8 {fR s.oa 4 (λj=>zm (s.l.ou j,s.oh j)) s.V.nc true with vl:=eH (eH (eH (eH (λj f=>(zm (s.l.ou j,s.oh j)).getD f undef) c 0 (i6 s.l.now)) c 1 (i6 b.k)) c 2 (i6 b.n)) c 3 (.slice ho hl hc)}++C)) 1 46 [false] [17] [] [((c:Int),s.V.nc)] [(c,s.V.nc),(c,s.V.nc),(c,s.V.nc),(c,s.V.nc)] (by kernel_rfl) (by kernel_rfl) (by simp) (by simp;omega) (by simp;omega) J λX L E u _ _=>?_
 refine cV F E d A (by rw[u,v,x,R]) [] (.tuple #[]) ?_;have en:(s.l.tk t).c.toNat=c:=by rw[m];rfl
 refine K L (E.sat.tail.re 8 rfl rfl _ λj _ f q=>?_) (by have:=E.sz;omega);refine Eq.trans ?_ (xG (C:=zm) (g:=λj=>(s.l.ou j,s.oh j)) (r:=(⟨s.l.now,b⟩,.slice ho hl hc)) rfl rfl j f q)
 show(zm (upd s.l.ou (s.l.tk t).c.toNat ⟨s.l.now,b⟩ j,upd s.oh c (.slice ho hl hc) j)).getD f undef=_
 rw[en];unfold upd;by_cases e:j=c<;>simp[e]
theorem RS.Mv{s:RS}(h:s.aa=some g):∃a:RS,s={a with aa:=some g}:=⟨s,by cases s;simp at h;subst h;rfl⟩
theorem Gb(F:aC prog main (DX Ok) Ψ)(hB:HB B Ok){b:aE}(d:b.kind=.normal)(q:b.fn=45){cf:aE}{cs:cW}{s:RS}{C:aX}{g:Addr}(v:s.l.al<1000000000):
 ∀m i,i+m=s.l.al->∀a w,a.defers=[]->St Ok B 48 [(4,i6 i),(3,i6 (cj s.l.ag i)),(0,ptr s.gm)] (mR {s with aa:=some g}++C) 0 a w->(∀w',Sat Ok w' (mR {s with aa:=some g}++C)->w'.heap.size=B->Ψ (G (cf.finish (i6 (cj s.l.ag s.l.al))) cs) w')->Ψ (G (b.at a (pc prog 45 15 [] [])) (cf::cs)) w
 |0,i,A,a,w,u,S,K=>by
  refine yW F aB hB d 18 [(0,(0,3),true)] [(false,false)] [] [(2,i6 (cj s.l.ag i))] 33 [false] [] [(decide ((i:Int)<s.l.al),false)] [] [] (by kernel_rfl) (by kernel_rfl) (by simp;omega) (by simp) (by simp) S λp j h c _=>?_
  refine cV F h d q (by rw[c,u]) [] (i6 (cj s.l.ag i)) ?_;have e:i=s.l.al:=by omega
  rw[e];exact K j h.sat h.sz
 |m+1,i,A,a,w,u,S,K=>by
  have y:IntKind.wrap .i64 ((i:Int)+1)=((i+1:Nat):Int):=by rw[aA (by omega) (by omega)];rfl
  have fin:∀(z:Int),cj s.l.ag (i+1)=z->(∀a' w',St Ok B 48 [(4,i6 (IntKind.wrap .i64 ((i:Int)+1))),(3,i6 z),(0,ptr s.gm)] (mR {s with aa:=some g}++C) 0 a' w'->a'.defers=a.defers->Ψ (G (b.at a' (pc prog 45 15 [] [])) (cf::cs)) w'):=λz o a' w' x r=>by
   rw[y,<-o]at x;exact Gb F hB d q v m (i+1) (by omega) a' w' (by rw[r,u]) x K
  by_cases ho:(s.l.ag i).o=true
  .refine yW F aB hB d 30 [(0,(0,3),true),(0,(0,3),true),(1,(i,4),false)] [(true,false),(true,false),(false,false),(false,false),(false,false),(false,false),(false,true)] [29] [(4,i6 (IntKind.wrap .i64 ((i:Int)+1))),(3,i6 (cj s.l.ag i)),(0,ptr s.gm)] 15 [] [] [(!(s.l.ag i).o,false),(!(s.l.ag i).o,false),(!(s.l.ag i).o,false),(!(s.l.ag i).o,false),(decide ((i:Int)<s.l.al),true)] [((i:Int),s.l.al)] [(i,s.l.al)] (by kernel_rfl) (by kernel_rfl) (by simp[ho];omega) (by simp;omega) (by simp;omega) S λp j h c _=>fin _ (by simp[cj,ho]) p j h c
  .have f:(s.l.ag i).o=false:=by simpa using ho
   rcases sv s.l.ag i with o|⟨k,hk,o⟩
   .rw[o]at S
    exact yW F aB hB d 33 [(0,(0,3),true),(0,(0,3),true),(1,(i,4),false)] [(true,false),(true,false),(true,false),(true,false),(true,false),(true,true),(true,true),(true,true),(true,true),(true,true),(true,true),(true,true),(true,true),(true,true),(true,true),(true,true),(true,true),(true,true),(true,true),(true,true),(true,true),(true,true),(true,false),(true,true)] [29] [(4,i6 (IntKind.wrap .i64 ((i:Int)+1))),(3,i6 i),(0,ptr s.gm)] 15 [] [] [(!(s.l.ag i).o,true),(!(s.l.ag i).o,true),(!(s.l.ag i).o,true),(!(s.l.ag i).o,true),(decide ((i:Int)<s.l.al),true)] [((i:Int),s.l.al)] [(i,s.l.al)] (by kernel_rfl) (by kernel_rfl) (by simp[f];omega) (by simp;omega) (by simp;omega) S λp j h c _=>fin _ (by simp[cj,f,o]) p j h c
   .rw[o]at S
    by_cases hl:(s.l.ag i).a<(s.l.ag k).a
    .exact yW F aB hB d 33 [(0,(0,3),true),(0,(0,3),true),(1,(i,4),false),(0,(0,3),true),(1,(i,0),false),(0,(0,3),true),(1,(k,0),false)] [(true,false),(true,false),(true,false),(true,false),(true,false),(false,true),(false,true),(false,true),(false,true),(false,true),(false,true),(true,false),(false,true),(false,true),(false,true),(false,true),(false,true),(false,true),(false,true),(false,true),(true,false),(false,true),(false,true),(false,true),(true,false),(true,false)] [29] [(4,i6 (IntKind.wrap .i64 ((i:Int)+1))),(3,i6 i),(0,ptr s.gm)] 15 [] [] [(decide ((s.l.ag i).a<(s.l.ag k).a),true),(!(s.l.ag i).o,true),(!(s.l.ag i).o,true),(!(s.l.ag i).o,true),(!(s.l.ag i).o,true),(decide ((i:Int)<s.l.al),true)] [((k:Int),s.l.al),((i:Int),s.l.al),((i:Int),s.l.al)] [(k,s.l.al),(i,s.l.al),(i,s.l.al)] (by kernel_rfl) (by kernel_rfl) (by simp[f,hl];omega) (by simp;omega) (by simp;omega) S λp j h c _=>fin _ (by simp[cj,f,o];omega) p j h c
    .exact yW F aB hB d 30 [(0,(0,3),true),(0,(0,3),true),(1,(i,4),false),(0,(0,3),true),(1,(i,0),false),(0,(0,3),true),(1,(k,0),false)] [(true,false),(true,false),(true,false),(true,false),(true,false),(false,true),(false,true),(false,true),(false,true),(false,true),(false,true),(true,false),(false,true),(false,true),(false,true),(false,true),(false,true),(false,true),(false,true),(false,true),(true,false),(false,true),(false,true),(false,true),(true,false),(false,false)] [29] [(4,i6 (IntKind.wrap .i64 ((i:Int)+1))),(3,i6 k),(0,ptr s.gm)] 15 [] [] [(decide ((s.l.ag i).a<(s.l.ag k).a),false),(!(s.l.ag i).o,true),(!(s.l.ag i).o,true),(!(s.l.ag i).o,true),(!(s.l.ag i).o,true),(decide ((i:Int)<s.l.al),true)] [((k:Int),s.l.al),((i:Int),s.l.al),((i:Int),s.l.al)] [(k,s.l.al),(i,s.l.al),(i,s.l.al)] (by kernel_rfl) (by kernel_rfl) (by simp[f,hl];omega) (by simp;omega) (by simp;omega) S λp j h c _=>fin _ (by simp[cj,f,o];omega) p j h c
theorem NU(F:aC prog main (DX Ok) Ψ)(hB:HB B Ok){s:RS}(q:Sat Ok w (mR s++C))(m:B<=w.heap.size)(j:s.aa=some g)(i:s.l.al<1000000000)(K:∀w',Sat Ok w' (mR s++C)->w'.heap.size=w.heap.size->Ψ (G (cf.finish (i6 (cj s.l.ag s.l.al))) cs) w'):Ψ (G (Frame.enter prog 45 #[ptr s.gm] .normal) (cf::cs)) w:=by
 obtain⟨s,rfl⟩:=RS.Mv j;refine mK f45 func45 _ rfl λbb a c f p r=>?_
 have d:HB w.heap.size Ok:=λa wr h=>hB a wr (aT m h)
 have S:St Ok w.heap.size _ [(0,ptr s.gm)] _ 0 a w:=⟨r,q,rfl⟩;generalize w.heap.size=B' at*;refine yW F aB d c 15 [] [] [] [(4,i6 (0:Nat)),(3,i6 (-1)),(0,ptr s.gm)] 15 [] [] [] [] [] (by kernel_rfl) (by kernel_rfl) (by simp) (by simp) (by simp) S λu o v e _=>?_
 exact Gb F d c f i s.l.al 0 (bD _) u o (by rw[e,p]) v K
abbrev lk(L:List iF)(j:Nat):iF:=L.getD j ⟨0,0,0⟩
theorem HX(L:List iF)(k:Int)(i:Nat)(h:i<L.length):(L.drop i).any (λx=>x.k==k)=((lk L i).k==k||(L.drop (i+1)).any λx=>x.k==k):=by
 have e:lk L i=L[i]:=by simp[lk,h]
 rw[List.drop_eq_getElem_cons h,Bb,e]
theorem L9(F:aC prog main (DX Ok) Ψ)(hB:HB B Ok){b:aE}(d:b.kind=.normal)(h:b.fn=124){cf:aE}{cs:cW}{s r c:Int}{ca:Addr}{cap:Nat}{L:List iF}{M:aX}(o:L.length<1000000000):
 ∀m i,i+m=L.length->∀a w,a.defers=[]->St Ok B 21 [(5,i6 i),(2,ptr B),(1,i6 c)] (bR B [i6 s,i6 r,.slice (some ca) L.length cap]::gZ ca L::M) 1 a w->
 (∀w',Sat Ok w' M->B<=w'.heap.size->Ψ (G (cf.finish (.bool ((L.drop i).any λx=>x.k==c))) cs) w')->Ψ (G (b.at a (pc prog 124 12 [] [])) (cf::cs)) w
 |0,i,u,a,w,p,S,K=>by
  refine yW F aB hB d 15 [(0,(0,2),true)] [(false,false)] [] [(4,.bool false)] 27 [false] [] [(decide ((i:Int)<L.length),false)] [] [] (by kernel_rfl) (by kernel_rfl) (by simp;omega) (by simp) (by simp) S λa' w' f e q=>?_
  refine cV F f d h (e.trans p) [] (.bool false) ?_;have j:(L.drop i).any (λx=>x.k==c)=false:=by rw[List.drop_of_length_le (by omega)];rfl
  rw[j]at K;exact K w' f.sat.tail.tail (by have:=f.sz;omega)
 |m+1,i,u,a,w,p,S,K=>by
  rw[HX L c i (by omega)]at K
  by_cases hk:(lk L i).k=c
  .refine yW F aB hB d 29 [(0,(0,2),true),(0,(0,2),true),(1,(i,0),false)] [(true,false),(true,false),(true,false)] [] [(4,.bool true)] 41 [true,true] [] [((lk L i).k==c,true),(decide ((i:Int)<L.length),true)] [((i:Int),L.length)] [(i,L.length)] (by kernel_rfl) (by kernel_rfl) (by simp only[ak,bB,or_false,forall_eq_or_imp,forall_eq,beq_iff_eq,decide_eq_true_eq];exact⟨hk,by omega⟩) (by simp;omega) (by simp;omega) S λa' w' f e q=>?_
   refine cV F f d h (e.trans p) [] (.bool true) ?_;have j:((lk L i).k==c)=true:=by simpa using hk
   rw[j,uv]at K;exact K w' f.sat.tail.tail (by have:=f.sz;omega)
  .have j:((lk L i).k==c)=false:=by simpa using hk
   rw[j,uy]at K;refine yW F aB hB d 33 [(0,(0,2),true),(0,(0,2),true),(1,(i,0),false)] [(true,false),(true,false),(false,false)] [] [(5,i6 (IntKind.wrap .i64 (i+1))),(2,ptr B),(1,i6 c)] 12 [] [] [((lk L i).k==c,false),(decide ((i:Int)<L.length),true)] [((i:Int),L.length)] [(i,L.length)] (by kernel_rfl) (by kernel_rfl) (by simp only[ak,bB,or_false,forall_eq_or_imp,forall_eq,decide_eq_true_eq];exact⟨j,by omega⟩) (by simp;omega) (by simp;omega) S λa' w' f e q=>?_
   rw[aA (by omega) (by omega)]at f;exact L9 F hB d h o m (i+1) (by omega) a' w' (e.trans p) f K
theorem L8(F:aC prog main (DX Ok) Ψ)(hB:HB B Ok){c:Int}(x:Sat Ok w M)(q:eY M (.slice ho hl hc) b.ch)(j:b.ch.length<1000000000)(r:B<=w.heap.size)(K:∀w',Sat Ok w' M->w.heap.size<=w'.heap.size->Ψ (G (cf.finish (.bool (cC b c))) cs) w'):Ψ (G (Frame.enter prog 124 #[lu b (.slice ho hl hc),i6 c] .normal) (cf::cs)) w:=by
 have f:HB w.heap.size Ok:=λa wr h=>hB a wr (aT r h)
 refine mK f124 func124 _ rfl λbb a d m v y=>?_
 rcases q with ⟨u,s⟩|⟨ca,cap,i,u,s⟩
 .cases u
  have S:St Ok w.heap.size 21 [(0,lu b (.slice none 0 0)),(1,i6 c)] M 0 a w:=⟨y,x,rfl⟩;generalize w.heap.size=B' at*;refine bk F aB f d 27 [(0,(0,2),true)] [(false,true)] [] [(4,.bool false)] (bR B' [i6 b.k,i6 b.n,.slice none 0 0]::·) 1 27 [false] [] [] [] [] (by kernel_rfl) (by kernel_rfl) (by simp) (by simp) (by simp) S λz p o e _ _=>?_
  refine cV F o d m (e.trans v) [] (.bool false) ?_;have A:cC b c=false:=by unfold cC;rw[s];rfl
  rw[A]at K;exact K p o.sat.tail (by have:=o.sz;omega)
 .cases u
  have S:St Ok w.heap.size 21 [(0,lu b (.slice (some ca) b.ch.length hc)),(1,i6 c)] (gZ ca b.ch::M) 0 a w:=⟨y,x.dup s rfl,rfl⟩;generalize w.heap.size=B' at*;refine bk F aB f d 12 [] [] [] [(5,i6 (0:Nat)),(2,ptr B'),(1,i6 c)] (bR B' [i6 b.k,i6 b.n,.slice (some ca) b.ch.length hc]::·) 1 12 [] [] [] [] [] (by kernel_rfl) (by kernel_rfl) (by simp) (by simp) (by simp) S λz p o e _ _=>?_
  exact L9 F f d m j _ 0 (bD _) z p (e.trans v) o K
def fT(Ok:dw)(B:Nat)(Ψ:gi)(cf:aE)(cs:cW)(zq:aE)(sP:cW):Prop:=
 ∀w M,Sat Ok w M->B<=w.heap.size->(∀w3,Sat Ok w3 M->w.heap.size<=w3.heap.size->Ψ (G (cf.finish (.tuple #[])) cs) w3)->Ψ (G (zq.finish (.tuple #[])) sP) w
theorem Rv(F:aC prog main (DX Ok) Ψ)(hB:HB B Ok){s:RS}(Z:Sat Ok w (mR s++C))(P:B<=w.heap.size)(L:s.ta=some tg)(Y:t<s.l.tl)(N:(s.l.tk t).o=-1)(hk:k<1000)(K:∀d u w' r,fT Ok B Ψ cf cs d u->Sat Ok w' (mR s++(r::C))->w.heap.size<=w'.heap.size->(k=0->Ψ (G (Frame.enter prog 100 #[ptr s.gm,i6 t,lu b (.slice ho hl hc)] .normal) (d::u)) w')/\(∀j,k=j+1->Ψ (G (Frame.enter prog 101 #[ptr s.gm,i6 t,i6 j,lu b (.slice ho hl hc)] .normal) (d::u)) w')):
 Ψ (G (Frame.enter prog 83 #[ptr s.gm,i6 t,i6 k,lu b (.slice ho hl hc)] .normal) (cf::cs)) w:=by
 obtain⟨s,rfl⟩:=RS.jI L;refine mK f83 func83 _ rfl λbb a c z W hA=>?_
 have A:HB w.heap.size Ok:=λa wr h=>hB a wr (aT P h)
 have S:St Ok w.heap.size 29 [(0,ptr s.gm),(1,i6 t),(2,i6 k),(3,lu b (.slice ho hl hc))] _ 0 a w:=⟨hA,Z,rfl⟩;have X:t<s.l.tl:=Y;have x:(s.l.tk t).o=-1:=N;have V:IntKind.wrap .i64 ((s.l.tk t).o+1)=0:=by rw[x];decide
 generalize w.heap.size=B' at*;rcases Nat.eq_zero_or_pos k with y|y
 .subst y
  refine bk F aB A c 25 [(1,(0,4),true),(4,(t,3),false),(0,(0,0),true),(0,(0,1),true),(0,(0,2),true)] [(true,false),(true,false)] [] [(21,lu b (.slice ho hl hc)),(20,i6 t),(19,ptr s.gm)] (bR B' [i6 b.k,i6 b.n,.slice ho hl hc]::·) 1 25 [true] [] [(((0:Nat):Int)==IntKind.wrap .i64 ((s.l.tk t).o+1),true)] [((t:Int),s.l.tl)] [(t,s.l.tl)] (by kernel_rfl) (by kernel_rfl) (by simp[V]) (by simp;omega) (by simp;omega) S λa1 H e m _ _=>?_
  refine Pp F c 22 100 #[ptr s.gm,i6 t,lu b (.slice ho hl hc)] (by kernel_rfl) (by kernel_rfl) (by decide) e λd o=>?_
  refine(K d _ H _ (λv M Q p I=>o _ _ λT q i=>?_) e.sat.lay (by have:=e.sz;omega)).1 rfl;have U:St Ok v.heap.size 29 _ M 0 T v:=⟨q,Q,rfl⟩;refine yW F aB (λa wr h=>hB a wr (aT p h)) c 1 [] [] [] [] 27 [true] [] [] [] [] (by kernel_rfl) (by kernel_rfl) (by simp) (by simp) (by simp) U λa3 E D f R=>?_
  exact cV F D c z (by rw[f,i,m,W]) [] (.tuple #[]) (I E D.sat R.size)
 .obtain⟨j,rfl⟩:∃j,k=j+1:=⟨k-1,by omega⟩
  have J:IntKind.wrap .i64 (((j+1:Nat):Int)-1)=j:=by rw[aA (by omega) (by omega)];omega
  have O:(((j+1:Nat):Int)==IntKind.wrap .i64 ((s.l.tk t).o+1))=false:=by rw[V];simp;omega
  refine bk F aB A c 27 [(1,(0,4),true),(4,(t,3),false),(0,(0,0),true),(0,(0,1),true),(0,(0,2),true)] [(true,false),(false,false)] [] [(27,lu b (.slice ho hl hc)),(26,i6 (IntKind.wrap .i64 (((j+1:Nat):Int)-1))),(24,i6 t),(23,ptr s.gm)] (bR B' [i6 b.k,i6 b.n,.slice ho hl hc]::·) 1 27 [false] [] [(((j+1:Nat):Int)==IntKind.wrap .i64 ((s.l.tk t).o+1),false)] [((t:Int),s.l.tl)] [(t,s.l.tl)] (by kernel_rfl) (by kernel_rfl) (by simp only[ak,bB,or_false,forall_eq];exact O) (by simp;omega) (by simp;omega) S λa1 H e m _ _=>?_
  rw[J]at e;refine Pp F c 28 101 #[ptr s.gm,i6 t,i6 j,lu b (.slice ho hl hc)] (by kernel_rfl) (by kernel_rfl) (by decide) e λd o=>?_
  refine(K d _ H _ (λv M Q p I=>o _ _ λT q i=>?_) e.sat.lay (by have:=e.sz;omega)).2 j rfl;have U:St Ok v.heap.size 29 _ M 0 T v:=⟨q,Q,rfl⟩;refine yW F aB (λa wr h=>hB a wr (aT p h)) c 1 [] [] [] [] 29 [false] [] [] [] [] (by kernel_rfl) (by kernel_rfl) (by simp) (by simp) (by simp) U λa3 E D f R=>?_
  exact cV F D c z (by rw[f,i,m,W]) [] (.tuple #[]) (I E D.sat R.size)
abbrev RS.lD(s:RS)(t k:Nat)(n:Int):RS:={s with l:={s.l with tk:=upd s.l.tk t {s.l.tk t with a:=upd (s.l.tk t).a k n}}}
theorem Pg(F:aC prog main (DX Ok) Ψ)(hB:HB B Ok){s:RS}(hS:Sat Ok w (mR s++C))(gp:B<=w.heap.size)(X:s.ta=some tg)(ht:t<s.l.tl)(hk:k<=s.V.nl)(Y:s.V.nl<=6)(I:0<s.V.nl->∃la,s.la=some la)(Ov:k<s.V.nl->(s.V.ly k).k=1\/(s.V.ly k).k=2)(K:∀d z w' C',fT Ok B Ψ cf cs d z->(∀i r,nth C i=some r->∃j,nth C' j=some r)->w.heap.size<=w'.heap.size->
 (k=s.V.nl->Sat Ok w' (mR s++C')->Ψ (G (Frame.enter prog 76 #[ptr s.gm,i6 t] .normal) (d::z)) w')/\
 (k<s.V.nl->(s.V.ly k).k=1->Sat Ok w' (mR (s.lD t k 1)++C')->Ψ (G (Frame.enter prog 58 #[ptr s.gm,i6 t,i6 (k+1:Nat)] .normal) (d::z)) w')/\
 (k<s.V.nl->(s.V.ly k).k=2->Sat Ok w' (mR s++C')->Ψ (G (Frame.enter prog 58 #[ptr s.gm,i6 t,i6 (k+1:Nat)] .normal) (d::z)) w')):
 Ψ (G (Frame.enter prog 58 #[ptr s.gm,i6 t,i6 k] .normal) (cf::cs)) w:=by
 obtain⟨s,rfl⟩:=RS.jI X;refine mK f58 func58 _ rfl λbb a c L hd hA=>?_
 have N:HB w.heap.size Ok:=λa wr h=>hB a wr (aT gp h)
 have S:St Ok w.heap.size 113 [(0,ptr s.gm),(1,i6 t),(2,i6 k)] _ 0 a w:=⟨hA,hS,rfl⟩;have T:t<s.l.tl:=ht;have nA:k<=s.V.nl:=hk;have D:s.V.nl<=6:=Y;generalize w.heap.size=B' at*;rcases MF nA with e|e
 .have hc:(((k:Nat):Int)==(s.V.nl:Int))=true:=by simp[e]
  refine yW F aB N c 16 [(0,(0,0),true)] [(true,false)] [] [(17,i6 t),(16,ptr s.gm)] 16 [true] [] [((k:Int)==s.V.nl,true)] [] [] (by kernel_rfl) (by kernel_rfl) (by simp only[ak,bB,or_false,forall_eq];exact hc) (by simp) (by simp) S λa1 O m q _=>?_
  refine Pp F c 18 76 #[ptr s.gm,i6 t] (by kernel_rfl) (by kernel_rfl) (by decide) m λd u=>?_
  refine(K d _ O C (λA M y v Q=>u _ _ λV x p=>?_) (λi r h=>⟨i,h⟩) (by have:=m.sz;omega)).1 e m.sat;have W:St Ok A.heap.size 113 _ M 0 V A:=⟨x,y,rfl⟩;refine yW F aB (λa wr h=>hB a wr (aT v h)) c 1 [] [] [] [] 18 [true] [] [] [] [] (by kernel_rfl) (by kernel_rfl) (by simp) (by simp) (by simp) W λa3 P E o U=>?_
  exact cV F E c L (by rw[o,p,q,hd]) [] (.tuple #[]) (Q P E.sat U.size)
 .have hc:(((k:Nat):Int)==(s.V.nl:Int))=false:=by simp;omega
  obtain⟨la,I⟩:=I (show 0<s.V.nl by omega);obtain⟨s,rfl⟩:=RS.yp (s:=s) I;replace T:t<s.l.tl:=T;replace e:k<s.V.nl:=e;replace D:s.V.nl<=6:=D;have R:IntKind.wrap .i64 ((k:Int)+1)=((k+1:Nat):Int):=by rw[aA (by omega) (by omega)];rfl
  rcases Ov e with h1|y
  .have H:((s.V.ly k).k==1)=true:=by rw[show(s.V.ly k).k=1 from h1];rfl
   have J:k=0\/k=1\/k=2\/k=3\/k=4\/k=5:=by omega
   refine bk F aB N c 55 [(0,(0,0),true),(0,(0,0),true),(11,(k,0),false),(11,(k,1),false),(11,(k,2),false),(11,(k,3),false),(11,(k,4),false),(11,(k,5),false),(0,(0,0),true),(0,(0,1),true),(0,(0,2),true),(0,(0,3),true),(0,(0,4),true),(0,(0,5),true),(0,(0,0),true),(1,(0,4),true),(4,(t,7+k),false)] [(false,false),(true,false),(true,false),(true,false),(true,true)] [] [(42,i6 (IntKind.wrap .i64 ((k:Int)+1))),(40,i6 t),(39,ptr s.gm)] (λ_=>bR B' (qR (s.V.ly k))::(cD (mR (RS.lD {s with la:=some la,ta:=some tg} t k 1)) 3 {vR (some tg) 19 (λj=>Ff (s.l.tk j)) s.l.tl s.tc 131 with vl:=eH (λj f=>(Ff (s.l.tk j)).getD f undef) t (7+k) (i6 1)}++C)) 1 55 [false,true] [] [((s.V.ly k).k==1,true),((k:Int)==s.V.nl,false)] [((t:Int),s.l.tl),((k:Int),s.V.nl)] [(t,s.l.tl),(k,s.V.nl),(k,s.V.nl),(k,s.V.nl),(k,s.V.nl),(k,s.V.nl),(k,s.V.nl)] ?_ ?_ (by simp only[ak,bB,or_false,forall_eq_or_imp,forall_eq];exact⟨H,hc⟩) (by simp;omega) (by simp;omega) S λa1 O m q _ _=>?_
   .rcases J with rfl|rfl|rfl|rfl|rfl|rfl<;>kernel_rfl
   .rcases J with rfl|rfl|rfl|rfl|rfl|rfl<;>kernel_rfl
   rw[R]at m;replace m:St Ok B' 113 _ (bR B' (qR (s.V.ly k))::(mR (RS.lD {s with la:=some la,ta:=some tg} t k 1)++C)) 1 a1 O:=⟨m.env,m.sat.re 4 rfl rfl _ λj _ f _=>fN (by rcases J with rfl|rfl|rfl|rfl|rfl|rfl<;>rfl) (show 7+k<19 by omega) j f,m.sz⟩;refine Pp F c 43 58 #[ptr s.gm,i6 t,i6 (k+1:Nat)] (by kernel_rfl) (by kernel_rfl) (by decide) m λd u=>?_
   refine(K d _ O _ (λA M y v Q=>u _ _ λV x p=>?_) (λi r h=>⟨i+1,h⟩) (by have:=m.sz;omega)).2.1 e h1 m.sat.lay;have W:St Ok A.heap.size 113 _ M 0 V A:=⟨x,y,rfl⟩;refine yW F aB (λa wr h=>hB a wr (aT v h)) c 2 [] [] [] [] 58 [false,true] [] [] [] [] (by kernel_rfl) (by kernel_rfl) (by simp) (by simp) (by simp) W λa3 P E o U=>?_
   exact cV F E c L (by rw[o,p,q,hd]) [] (.tuple #[]) (Q P E.sat U.size)
  .have H:((s.V.ly k).k==1)=false:=by rw[show(s.V.ly k).k=2 from y];rfl
   have Z:((s.V.ly k).k==2)=true:=by rw[show(s.V.ly k).k=2 from y];rfl
   refine bk F aB N c 48 [(0,(0,0),true),(0,(0,0),true),(11,(k,0),false),(11,(k,1),false),(11,(k,2),false),(11,(k,3),false),(11,(k,4),false),(11,(k,5),false),(0,(0,0),true),(0,(0,1),true),(0,(0,2),true),(0,(0,3),true),(0,(0,4),true),(0,(0,5),true),(0,(0,0),true)] [(false,false),(true,false),(false,false),(true,false)] [] [(49,i6 (IntKind.wrap .i64 ((k:Int)+1))),(47,i6 t),(46,ptr s.gm)] (bR B' (qR (s.V.ly k))::·) 1 48 [false,false,true] [] [((s.V.ly k).k==2,true),((s.V.ly k).k==1,false),((k:Int)==s.V.nl,false)] [((k:Int),s.V.nl)] [(k,s.V.nl),(k,s.V.nl),(k,s.V.nl),(k,s.V.nl),(k,s.V.nl),(k,s.V.nl)] (by kernel_rfl) (by kernel_rfl) (by simp only[ak,bB,or_false,forall_eq_or_imp,forall_eq];exact⟨Z,H,hc⟩) (by simp;omega) (by simp;omega) S λa1 O m q _ _=>?_
   rw[R]at m;refine Pp F c 50 58 #[ptr s.gm,i6 t,i6 (k+1:Nat)] (by kernel_rfl) (by kernel_rfl) (by decide) m λd u=>?_
   refine(K d _ O _ (λA M y v Q=>u _ _ λV x p=>?_) (λi r h=>⟨i+1,h⟩) (by have:=m.sz;omega)).2.2 e y m.sat.lay;have W:St Ok A.heap.size 113 _ M 0 V A:=⟨x,y,rfl⟩;refine yW F aB (λa wr h=>hB a wr (aT v h)) c 2 [] [] [] [] 51 [false,false,true] [] [] [] [] (by kernel_rfl) (by kernel_rfl) (by simp) (by simp) (by simp) W λa3 P E o U=>?_
   exact cV F E c L (by rw[o,p,q,hd]) [] (.tuple #[]) (Q P E.sat U.size)
theorem Sat.Uj{nb:Nat}{a:Int}(h:Sat Ok w (bR nb [i6 a,i6 l,i6 n]::M)):Sat Ok w (gZ ⟨nb,0,none⟩ [⟨a,l,n⟩]::M):=by
 refine h.Ic 0 rfl (gZ ⟨nb,0,none⟩ [⟨a,l,n⟩]) (λj hj=>?_) (λz=>by cases z) rfl;obtain⟨j,f⟩:=j;obtain⟨d,c⟩:=hj;simp only[eG,gM]at d c;have e:j=0:=by omega
 subst e;refine⟨⟨by simp,c⟩,by simp only[add_add];simp,?_⟩;rcases f with _|_|_|f
 .rfl
 .rfl
 .rfl
 .omega
theorem Pt(F:aC prog main (DX Ok) Ψ)(hB:HB B Ok){s:RS}(hS:Sat Ok w (mR s++C))(hv:RV Ok s)(gp:B<=w.heap.size)(Z:s.ta=some tg)(ht:t<s.l.tl)(hk:k<s.V.nl)(D:s.l.el<1000000000)(z:∃la,s.la=some la)(Ov:(s.V.ly k).k=1\/(s.V.ly k).k=2)(K:∀v q w' C',fT Ok B Ψ cf cs v q->(∀i r,nth C i=some r->∃j,nth C' j=some r)->w.heap.size<=w'.heap.size->
 ((s.V.ly k).k=1->Sat Ok w' (mR s++C')->Ψ (G (Frame.enter prog 116 #[ptr s.gm,i6 t,i6 k,.agg (qR (s.V.ly k)).toArray,lu b (.slice ho hl hc)] .normal) (v::q)) w')/\
 ((s.V.ly k).k=2->b.k≠3->Sat Ok w' (mR s++C')->Ψ (G (Frame.enter prog 83 #[ptr s.gm,i6 t,i6 k,lu b (.slice ho hl hc)] .normal) (v::q)) w')/\
 ((s.V.ly k).k=2->b.k=3->∀g' cap' vs' nb i,Sat Ok w' (mR (s.dR g' cap' vs' (s.l.say t k 5 b.n))++C')->RV Ok (s.dR g' cap' vs' (s.l.say t k 5 b.n))->B<=nb->nth C' i=some (gZ ⟨nb,0,none⟩ [⟨6,k,b.n⟩])->Ψ (G (Frame.enter prog 83 #[ptr s.gm,i6 t,i6 k,lu (eB 6 k b.n) (.slice (some ⟨nb,0,none⟩) 1 1)] .normal) (v::q)) w')):
 Ψ (G (Frame.enter prog 101 #[ptr s.gm,i6 t,i6 k,lu b (.slice ho hl hc)] .normal) (cf::cs)) w:=by
 obtain⟨la,z⟩:=z;obtain⟨s,rfl⟩:=RS.yp z;replace ht:t<s.l.tl:=ht;replace hk:k<s.V.nl:=hk;replace D:s.l.el<1000000000:=D;refine dg f101 func101 _ rfl 60 (by kernel_rfl) hS λbb a0 B1 hn a H E S0 iI=>?_
 rcases Ov with W|W
 .refine bA F hB a E S0 36 [1,0,0,1,12,k,0,106,0,0,0,6,0,0,0,1,0,0,0,6,1,0,0,3] [2,2] [] [(24,.agg #[i6 b.k,i6 b.n,.slice ho hl hc]),(23,.agg #[i6 (s.V.ly k).k,i6 (s.V.ly k).a,i6 (s.V.ly k).b,i6 (s.V.ly k).c,i6 (s.V.ly k).d,i6 (s.V.ly k).e]),(22,i6 k),(21,i6 t),(20,ptr s.gm)] (λM=>bR (B1+1) [i6 (s.V.ly k).k,i6 (s.V.ly k).a,i6 (s.V.ly k).b,i6 (s.V.ly k).c,i6 (s.V.ly k).d,i6 (s.V.ly k).e]::(bR (B1) [i6 b.k,i6 b.n,.slice ho hl hc]::(M))) 2 36 [true] [] [((s.V.ly k).k==1,true)] [((↑k:Int),s.V.nl)] [(6,(k,s.V.nl))] λa1 V y m N p T=>?_
  refine bK F a m y 25 116 #[ptr s.gm,i6 t,i6 k,.agg #[i6 (s.V.ly k).k,i6 (s.V.ly k).a,i6 (s.V.ly k).b,i6 (s.V.ly k).c,i6 (s.V.ly k).d,i6 (s.V.ly k).e],.agg #[i6 b.k,i6 b.n,.slice ho hl hc]] λu c=>?_
  refine(K u _ V _ (λw2 M R uf O=>c _ _ _ R λa2 d U f L=>?_) (λi r h=>⟨i+2,h⟩) p).1 W (Sat.back (A:=mR {s with la:=some la}) (Sat.back (A:=bR B1 [i6 b.k,i6 b.n,.slice ho hl hc]::mR {s with la:=some la}) y.sat));refine aq F hB a f U 1 [] [] [] [] (λM=>M) 0 38 [true] [] λa3 I x e J o S=>?_
  refine cV F x a H e [] (.tuple #[]) ?_;exact O I x.sat o
 .by_cases Q:b.k=3
  .refine bA F hB a E S0 49 [1,0,0,1,12,k,0,106,0,0,0,6,0,0,0,1,1,0,0,2] [2,0,2,2] [] [(35,i6 b.n),(33,i6 k),(32,i6 t),(31,ptr s.gm),(7,ptr B1),(0,ptr s.gm),(1,i6 t),(2,i6 k)] (λM=>bR (B1+1) [i6 (s.V.ly k).k,i6 (s.V.ly k).a,i6 (s.V.ly k).b,i6 (s.V.ly k).c,i6 (s.V.ly k).d,i6 (s.V.ly k).e]::(bR (B1) [i6 b.k,i6 b.n,.slice ho hl hc]::(M))) 2 49 [false,true,true] [] [(b.k==3,true),((s.V.ly k).k==2,true),((s.V.ly k).k==1,false)] [((↑k:Int),s.V.nl)] [(6,(k,s.V.nl))] λa1 V y m N p T=>?_
   refine bK F a m y 36 82 #[ptr s.gm,i6 t,i6 k,i6 5,i6 b.n] λu c=>?_
   refine kS F hB (s:={s with la:=some la}) (Sat.back (A:=mR {s with la:=some la}) (Sat.back (A:=bR B1 [i6 b.k,i6 b.n,.slice ho hl hc]::mR {s with la:=some la}) y.sat)) hv (by omega) D Z ht λg' cap' vs' w2 R Y je=>c _ _ _ R λa2 d U f L=>?_
   refine aq F hB a f U 29 [14,0,1,1,1,0,0,3,1,0,0,3,16,0,0,3,16,0,0,3] [] [] [(58,.agg #[i6 2,i6 0,.slice (some ⟨d+1,0,none⟩) 1 1]),(57,i6 k),(56,i6 t),(55,ptr s.gm)] (λM=>bR (d+1) [i6 6,i6 k,i6 b.n]::(bR (d) [i6 2,i6 0,.slice (some ⟨d+1,0,none⟩) 1 1]::(bu 14 (0,2) (.slice (some ⟨d+1,0,none⟩) 1 1) (bu 14 (0,1) (i6 0) (bu 14 (0,0) (i6 2) (M)))))) 2 64 [false,true,true] [] λa3 I x e J o S=>?_
   refine bK F a e x 59 83 #[ptr s.gm,i6 t,i6 k,.agg #[i6 2,i6 0,.slice (some ⟨d+1,0,none⟩) 1 1]] λlq P=>?_
   have h3:=Sat.back (A:=mR (RS.dR {s with la:=some la} g' cap' vs' (s.l.say t k 5 b.n))) (Sat.back (A:=bR d [i6 2,i6 0,.slice (some ⟨d+1,0,none⟩) 1 1]::mR (RS.dR {s with la:=some la} g' cap' vs' (s.l.say t k 5 b.n))) (C:=bR B1 [i6 2,i6 0,.slice (some ⟨d+1,0,none⟩) 1 1]::bR (B1+1) (qR (s.V.ly k))::C) (Sat.Uj x.sat));refine(K lq _ I _ (λw4 M h4 L7 O=>P _ _ _ h4 λa4 B4 S4 oD jP=>?_) (λi r h=>⟨i+4,h⟩) (by omega)).2.2 W Q g' cap' vs' (d+1) 1 h3 Y (by omega) rfl;refine aq F hB a oD S4 1 [] [] [] [] (λM=>M) 0 66 [false,true,true] [] λa5 w5 S5 nC mz X jv=>?_
   refine cV F S5 a H nC [] (.tuple #[]) ?_;exact O w5 S5.sat X
  .refine bA F hB a E S0 49 [1,0,0,1,12,k,0,106,0,0,0,6,0,0,0,1,1,0,0,1,1,0,0,3] [2,0,2,0] [] [(58,.agg #[i6 b.k,i6 b.n,.slice ho hl hc]),(57,i6 k),(56,i6 t),(55,ptr s.gm)] (λM=>bR (B1+1) [i6 (s.V.ly k).k,i6 (s.V.ly k).a,i6 (s.V.ly k).b,i6 (s.V.ly k).c,i6 (s.V.ly k).d,i6 (s.V.ly k).e]::(bR (B1) [i6 b.k,i6 b.n,.slice ho hl hc]::(M))) 2 49 [false,true,false] [] [(b.k==3,false),((s.V.ly k).k==2,true),((s.V.ly k).k==1,false)] [((↑k:Int),s.V.nl)] [(6,(k,s.V.nl))] λa1 V y m N p T=>?_
   refine bK F a m y 59 83 #[ptr s.gm,i6 t,i6 k,.agg #[i6 b.k,i6 b.n,.slice ho hl hc]] λu c=>?_
   refine(K u _ V _ (λw2 M R uf O=>c _ _ _ R λa2 d U f L=>?_) (λi r h=>⟨i+2,h⟩) p).2.1 W Q (Sat.back (A:=mR {s with la:=some la}) (Sat.back (A:=bR B1 [i6 b.k,i6 b.n,.slice ho hl hc]::mR {s with la:=some la}) y.sat));refine aq F hB a f U 1 [] [] [] [] (λM=>M) 0 51 [false,true,false] [] λa3 I x e J o S=>?_
   refine cV F x a H e [] (.tuple #[]) ?_;exact O I x.sat o
end Go.Proofs.YtobagnjnbmgidaaGreatDoor
