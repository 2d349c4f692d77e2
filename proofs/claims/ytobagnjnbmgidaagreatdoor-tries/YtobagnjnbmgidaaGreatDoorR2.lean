import Derived.Test.YtobagnjnbmgidaaGreatDoorA1
set_option linter.all false
set_option maxHeartbeats 8000000
set_option maxRecDepth 100000
namespace Go.Proofs.YtobagnjnbmgidaaGreatDoor
open Go.Conc Go.RowKit Tryz
structure RS where
 gm:Nat
 la:Option Addr
 lc:Nat
 ca:Option Addr
 cc:Nat
 eH:Nat→Option Addr
 fF:Nat→Nat
 aa:Option Addr
 ac:Nat
 av:Nat→List Value
 ta:Option Addr
 tc:Nat
 tv:Nat→List Value
 wa:Option Addr
 wc:Nat
 wv:Nat→List Value
 wh:Nat→Value
 ua:Addr
 uc:Nat
 gt:Value
 oa:Addr
 oc:Nat
 oh:Nat→Value
 ea:Option Addr
 ec:Nat
 vv:Nat→List Value
 V:Ev0
 l:LS
def mC(s:RS):List Value:=[.slice s.la s.V.nl s.lc,.slice s.ca s.V.nc s.cc,i6 s.l.now,.slice s.aa s.l.al s.ac,.slice s.ta s.l.tl s.tc,.slice s.wa s.l.wl s.wc,.slice (some s.ua) s.V.nc s.uc,s.gt,.slice (some s.oa) s.V.nc s.oc,.slice s.ea s.l.el s.ec]
def mR(s:RS):List ah:=[bR s.gm (mC s),vR s.aa 5 (fun j=>EA (s.l.ag j)) s.l.al s.ac 93,sR s.aa 5 s.av s.l.al s.ac,vR s.ta 19 (fun j=>FM (s.l.tk j)) s.l.tl s.tc 131,sR s.ta 19 s.tv s.l.tl s.tc,vR s.wa 7 (fun j=>sI (s.l.wt j,s.wh j)) s.l.wl s.wc 136,sR s.wa 7 s.wv s.l.wl s.wc,
 fR s.ua 1 (fun j=>[i6 (s.l.us j)]) s.V.nc true,fR s.oa 4 (fun j=>zF (s.l.ou j,s.oh j)) s.V.nc true,vR s.ea 5 (fun j=>zo (s.l.ev j)) s.l.el s.ec 55,sR s.ea 5 s.vv s.l.el s.ec,fR (s.la.getD ⟨0,0,none⟩) 6 (fun j=>BU (s.V.ly j)) s.V.nl false,fR (s.ca.getD ⟨0,0,none⟩) 2 (fun j=>[i6 (s.V.st j),.slice (s.eH j) (s.V.nt j) (s.fF j)]) s.V.nc false]
structure RV(Ok:Addr→Bool→Prop)(s:RS):Prop where
 a:Vc Ok s.aa s.l.al s.ac
 t:Vc Ok s.ta s.l.tl s.tc
 w:Vc Ok s.wa s.l.wl s.wc
 e:Vc Ok s.ea s.l.el s.ec
section
variable{main:Bool}{B:Nat}{Ok:Addr→Bool→Prop}{Ψ:Goroutine→World→Prop}
abbrev RS.jN(s:RS)(g' aj:Nat)(bA:Nat→List Value)(L:LS):RS:={s with ea:=some ⟨g',0,none⟩,ec:=aj,vv:=bA,l:=L}
theorem RS.lV{s:RS}{g:Addr}(h:s.ta=some g):∃s0:RS,s={s0 with ta:=some g}:=⟨s,by cases s;simp at h;subst h;rfl⟩
theorem RS.GI{s:RS}{g:Addr}(h:s.la=some g):∃s0:RS,s={s0 with la:=some g}:=⟨s,by cases s;simp at h;subst h;rfl⟩
theorem RS.Mq{s:RS}{g:Addr}(h:s.ca=some g):∃s0:RS,s={s0 with ca:=some g}:=⟨s,by cases s;simp at h;subst h;rfl⟩
theorem vi(F:aC prog main (DX Ok) Ψ)(hB:HB B Ok){cf:Frame}{cs:List Frame}{w:World}{s:RS}{C:List ah}{tg:Addr}{t:Nat}{l q n:Int}(hS:Sat Ok w (mR s++C))(hv:RV Ok s)(ey:B≤w.heap.size)(hlen:s.l.el<1000000000)(jy:s.ta=some tg)(ht:t<s.l.tl)(K:∀g' aj bA w',Sat Ok w' (mR (s.jN g' aj bA (s.l.say t l q n))++C)→RV Ok (s.jN g' aj bA (s.l.say t l q n))→w.heap.size≤w'.heap.size→Ψ (G (cf.finish (.tuple #[])) cs) w'):
 Ψ (G (Frame.enter prog 82 #[ptr s.gm,i6 t,i6 l,i6 q,i6 n] .normal) (cf::cs)) w:=by
 obtain⟨s,rfl⟩:=RS.lV jy;refine lP f82 func82 _ rfl fun b a af aJ hd hA=>?_
 have oQ:HB w.heap.size Ok:=fun a wr h=>hB a wr (Nat.le_trans ey h)
 have S:St Ok w.heap.size 39 [(0,ptr s.gm),(1,i6 t),(2,i6 l),(3,i6 q),(4,i6 n)] _ 0 a w:=⟨hA,hS,rfl⟩;have hl:s.l.el<1000000000:=hlen;have su:t<s.l.tl:=ht;generalize w.heap.size=B' at*;refine bk F aL oQ af 4 [(0,(0,2),true),(0,(0,4),true),(3,(t,0),false),(0,(0,0),true),(0,(0,1),true),(0,(0,2),true),(0,(0,3),true),(0,(0,4),true)] [(true,false)] [17] [(10,ptr B'),(0,ptr s.gm)] (bR B' (zo ⟨s.l.now,(s.l.tk t).c,l,q,n⟩)::·) 1 4 [] [17] [] [((t:Int),s.l.tl)] [(t,s.l.tl)] (by kernel_rfl) (by kernel_rfl) (by simp) (by simp;omega) (by simp;omega) S fun a1 w1 S1 aG _ _=>?_
 refine Vb [] [] F aL oQ af 8 [(1,(0,9),true),(0,(0,0),true),(0,(0,1),true),(0,(0,2),true),(0,(0,3),true),(0,(0,4),true)] [] [(27,ptr s.gm)] (bR (B'+1) (zo ⟨s.l.now,(s.l.tk t).c,l,q,n⟩)::·) 2 [] [] [] 32 34 35 33 55 5 40 11 12 0 (by kernel_rfl) (by kernel_rfl) (by kernel_rfl) (by kernel_rfl) (by kernel_rfl) (by kernel_rfl) (fun _ _ h=>by cases h) rfl rfl (by decide) (by kernel_rfl) (by simp) (by simp) (by simp) S1 rfl rfl (by decide) rfl hv.e (fun _ _=>rfl) rfl (BO _) (by omega) (by simp only[maxLen];omega) (by dsimp only;omega) fun g' aj iW bA a2 w2 Vo A hz eG aW=>?_
 have S2:St Ok w2.heap.size 39 _ _ 0 a2 w2:=⟨eG,A.au,rfl⟩;have dV:=A.size;generalize w2.heap.size=B2 at*;refine bk F aL (fun a wr h=>hB a wr (by omega)) af 5 [(2,(0,9),true)] [] [] [] (fun _=>bR (B'+1) (zo ⟨s.l.now,(s.l.tk t).c,l,q,n⟩)::bR B' (zo ⟨s.l.now,(s.l.tk t).c,l,q,n⟩)::(gM (mR (RS.jN {s with ta:=some tg} g' aj bA (s.l.say t l q n))) 9 (vR (some ⟨g',0,none⟩) 5 iW (s.l.el+1) aj 55)++C)) 0 10 [] [17,9] [] [] [] (by kernel_rfl) (by kernel_rfl) (by simp) (by simp) (by simp) S2 fun a3 w3 S3 bD gD _=>?_
 refine dA F S3 af aJ (by rw[bD,aW,aG,hd]) [] (.tuple #[]) ?_;exact K g' aj bA w3 (S3.au.tail.tail.re 9 rfl rfl _ A.upd) ⟨hv.a,hv.t,hv.w,A.vc⟩ (by have:=S3.sz;omega)
end
section
variable{main:Bool}{B:Nat}{Ok:Addr→Bool→Prop}{Ψ:Goroutine→World→Prop}
theorem JG(e:rB):∀u∈EA e,u.oneCell'=true:=by intro u hu;simp[EA] at hu;rcases hu with rfl|rfl|rfl|rfl|rfl<;>rfl
theorem Nj(F:aC prog main (DX Ok) Ψ)(hB:HB B Ok){cf:Frame}{cs:List Frame}{w:World}{gm len cap:Nat}{x0 x1 x2 x4 x5 x6 x7 x8 x9:Value}{sa:Option Addr}{ag:Nat→rB}{vs:Nat→List Value}{R:List ah}(e:rB)(hS:Sat Ok w (bR gm [x0,x1,x2,.slice sa len cap,x4,x5,x6,x7,x8,x9]::vR sa 5 (fun j=>EA (ag j)) len cap 93::sR sa 5 vs len cap::R))(hv:Vc Ok sa len cap)(ey:B≤w.heap.size)(hlen:len<1000000000)(K:∀g' aj bA w',Sat Ok w' (bR gm [x0,x1,x2,.slice (some ⟨g',0,none⟩) (len+1) aj,x4,x5,x6,x7,x8,x9]::vR (some ⟨g',0,none⟩) 5 (fun j=>EA (upd ag len e j)) (len+1) aj 93::sR (some ⟨g',0,none⟩) 5 bA (len+1) aj::R)→
 Vc Ok (some ⟨g',0,none⟩) (len+1) aj→w.heap.size≤w'.heap.size→Ψ (G (cf.finish (.tuple #[])) cs) w'):
 Ψ (G (Frame.enter prog 44 #[ptr gm,.agg #[i6 e.a,i6 e.t,i6 e.w,i6 e.c,.bool e.o]] .normal) (cf::cs)) w:=by
 refine lP f44 func44 _ rfl fun b a af aJ hd hA=>?_
 have oQ:HB w.heap.size Ok:=fun a wr h=>hB a wr (Nat.le_trans ey h)
 have S:St Ok w.heap.size 14 [(0,ptr gm),(1,.agg #[i6 e.a,i6 e.t,i6 e.w,i6 e.c,.bool e.o])] _ 0 a w:=⟨hA,hS,rfl⟩;generalize w.heap.size=B' at*;refine bk F aL oQ af 4 [] [] [] [(3,ptr B'),(0,ptr gm)] (bR B' (EA e)::·) 1 4 [] [] [] [] [] (by kernel_rfl) (by kernel_rfl) (by simp) (by simp) (by simp) S fun a1 w1 S1 aG _ _=>?_
 refine Vb [] [] F aL oQ af 7 [(1,(0,3),true),(0,(0,0),true),(0,(0,1),true),(0,(0,2),true),(0,(0,3),true),(0,(0,4),true)] [] [(4,ptr gm)] (bR (B'+1) (EA e)::·) 2 [] [] [] 8 10 11 84 93 5 40 3 4 0 (by kernel_rfl) (by kernel_rfl) (by kernel_rfl) (by kernel_rfl) (by kernel_rfl) (by kernel_rfl) (fun _ _ h=>by cases h) rfl rfl (by decide) (by kernel_rfl) (by simp) (by simp) (by simp) S1 rfl rfl (by decide) rfl hv (fun _ _=>rfl) rfl (JG e) (by omega) (by simp[maxLen];omega) (by omega) fun g' aj iW bA a2 w2 Vo A hz eG aW=>?_
 have S2:St Ok w2.heap.size 14 _ _ 0 a2 w2:=⟨eG,A.au,rfl⟩;have dV:=A.size;generalize w2.heap.size=B2 at*;refine bk F aL (fun a wr h=>hB a wr (by omega)) af 4 [(2,(0,3),true)] [] [] [] (gM · 2 (bR gm [x0,x1,x2,.slice (some ⟨g',0,none⟩) (len+1) aj,x4,x5,x6,x7,x8,x9])) 0 9 [] [8] [] [] [] (by kernel_rfl) (by kernel_rfl) (by simp) (by simp) (by simp) S2 fun a3 w3 S3 bD gD _=>?_
 refine dA F S3 af aJ (by rw[bD,aW,aG,hd]) [] (.tuple #[]) ?_;have GW:Sat Ok w3 (bR gm [x0,x1,x2,.slice (some ⟨g',0,none⟩) (len+1) aj,x4,x5,x6,x7,x8,x9]::vR (some ⟨g',0,none⟩) 5 iW (len+1) aj 93::sR (some ⟨g',0,none⟩) 5 bA (len+1) aj::R):=S3.au.tail.tail;refine K g' aj bA w3 (GW.re 1 rfl rfl _ A.upd) A.vc (by have:=S3.sz;omega)
abbrev RS.lP(s:RS)(g' aj:Nat)(bA:Nat→List Value)(L:LS):RS:={s with aa:=some ⟨g',0,none⟩,ac:=aj,av:=bA,l:=L}
theorem Ls(F:aC prog main (DX Ok) Ψ)(hB:HB B Ok){cf:Frame}{cs:List Frame}{w:World}{s:RS}{C:List ah}(e:rB)(hS:Sat Ok w (mR s++C))(hv:RV Ok s)(ey:B≤w.heap.size)(hlen:s.l.al<1000000000)(K:∀g' aj bA w',Sat Ok w' (mR (s.lP g' aj bA (s.l.put e))++C)→RV Ok (s.lP g' aj bA (s.l.put e))→w.heap.size≤w'.heap.size→Ψ (G (cf.finish (.tuple #[])) cs) w'):
 Ψ (G (Frame.enter prog 44 #[ptr s.gm,.agg #[i6 e.a,i6 e.t,i6 e.w,i6 e.c,.bool e.o]] .normal) (cf::cs)) w:=
 Nj F hB e hS hv.a ey hlen fun g' aj bA w' h1 h2 h3=>K g' aj bA w' h1 ⟨h2,hv.t,hv.w,hv.e⟩ h3
theorem JC(e:Ii×Value)(h:e.2.oneCell'=true):∀u∈sI e,u.oneCell'=true:=by intro u hu;simp[sI] at hu;rcases hu with rfl|rfl|rfl|rfl|rfl|rfl|rfl<;>first|rfl|exact h
abbrev RS.c8(s:RS)(g' aj:Nat)(bA:Nat→List Value)(t:Nat)(l:Int):RS:={s with wa:=some ⟨g',0,none⟩,wc:=aj,wv:=bA,wh:=upd s.wh s.l.wl (.slice none 0 0),l:=s.l.c8 t l}
theorem FG{f:Nat→Ii}{g:Nat→Value}{i j:Nat}{x:Ii}{y:Value}:sI (upd f i x j,upd g i y j)=sI (upd (fun j=>(f j,g j)) i (x,y) j):=by
 unfold upd;by_cases h:j=i<;>simp[h]
theorem FB(F:aC prog main (DX Ok) Ψ)(hB:HB B Ok){cf:Frame}{cs:List Frame}{w:World}{s:RS}{C:List ah}{tg:Addr}{t:Nat}{l d:Int}(hS:Sat Ok w (mR s++C))(hv:RV Ok s)(ey:B≤w.heap.size)(rJ:s.l.wl<1000000000)(fy:s.l.al<1000000000)(jy:s.ta=some tg)(ht:t<s.l.tl)(aP:0≤d)(vw:-4611686018427387904≤s.l.now+d)(uu:s.l.now+d<4611686018427387904)(K:∀g' aj bA g2 jP Il w',Sat Ok w' (mR ((s.c8 g' aj bA t l).lP g2 jP Il (s.l.wait t l d))++C)→RV Ok ((s.c8 g' aj bA t l).lP g2 jP Il (s.l.wait t l d))→w.heap.size≤w'.heap.size→Ψ (G (cf.finish (i6 s.l.wl)) cs) w'):
 Ψ (G (Frame.enter prog 81 #[ptr s.gm,i6 t,i6 l,i6 d] .normal) (cf::cs)) w:=by
 obtain⟨s,rfl⟩:=RS.lV jy;refine lP f81 func81 _ rfl fun b a af aJ hd hA=>?_
 have oQ:HB w.heap.size Ok:=fun a wr h=>hB a wr (Nat.le_trans ey h)
 have S:St Ok w.heap.size 49 [(0,ptr s.gm),(1,i6 t),(2,i6 l),(3,i6 d)] _ 0 a w:=⟨hA,hS,rfl⟩;have hl:s.l.wl<1000000000:=rJ;have su:t<s.l.tl:=ht;have hw:IntKind.wrap .i64 (s.l.now+d)=s.l.now+d:=bI (by have:-4611686018427387904≤s.l.now+d:=vw;omega) (by have:s.l.now+d<4611686018427387904:=uu;omega);generalize w.heap.size=B' at*;refine bk F aL oQ af 24 [(0,(0,5),true),(0,(0,5),true)] [] [] [(23,.slice (some ⟨B',0,none⟩) 1 1),(19,.slice s.wa s.l.wl s.wc),(15,ptr s.gm),(9,i6 s.l.wl),(0,ptr s.gm),(1,i6 t),(3,i6 d)] (bR B' (sI (⟨t,l,false,false,⟨0,0,[]⟩⟩,.slice none 0 0))::·) 1 24 [] [] [] [] [] (by kernel_rfl) (by kernel_rfl) (by simp) (by simp) (by simp) S fun a1 w1 S1 aG _ _=>?_
 refine Yd F oQ af 19 23 24 86 136 7 64 6 7 0 (by kernel_rfl) (by kernel_rfl) (by kernel_rfl) (by decide) rfl rfl rfl rfl (by decide) rfl hv.w (fun _ _=>rfl) rfl (JC _ rfl) (Nat.le_refl _) (by simp only[maxLen];omega) (by dsimp only;omega) S1 fun g' aj iW bA a2 w2 A eG aW=>?_
 rw[show nL (pc prog 81 24 [] [])=pc prog 81 25 [] [] by kernel_rfl];have S2:St Ok w2.heap.size 49 _ _ 0 a2 w2:=⟨eG,A.au,rfl⟩;have dV:=A.size;have ck:=S1.sz;generalize w2.heap.size=B2 at*;have Hz:HB B2 Ok:=fun a wr h=>hB a wr (by omega)
 refine bk F aL Hz af 34 [(1,(0,5),true),(1,(0,4),true),(4,(t,6),false),(1,(0,2),true)] [(true,false),(true,false)] [] [(46,.agg #[i6 (IntKind.wrap .i64 (s.l.now+d)),i6 t,i6 s.l.wl,i6 1,.bool false]),(37,ptr s.gm),(9,i6 s.l.wl)] (fun _=>bR B' (sI (⟨t,l,false,false,⟨0,0,[]⟩⟩,.slice none 0 0))::(gM (gM (mR (RS.c8 {s with ta:=some tg} g' aj bA t l)) 3 {vR (some tg) 19 (fun j=>FM (s.l.tk j)) s.l.tl s.tc 131 with vl:=vf (fun j f=>(FM (s.l.tk j)).getD f undef) t 6 (i6 s.l.wl)}) 5 (vR (some ⟨g',0,none⟩) 7 iW (s.l.wl+1) aj 136)++C)) 0 59 [true] [] [(decide (d≥0),true)] [((t:Int),s.l.tl)] [(t,s.l.tl)] (by kernel_rfl) (by kernel_rfl) (by simp;omega) (by simp;omega) (by simp;omega) S2 fun a3 w3 S3 bD _ _=>?_
 rw[hw] at S3;have h3:Sat Ok w3 (mR (RS.c8 {s with ta:=some tg} g' aj bA t l)++C):=(S3.au.tail.re 3 rfl rfl _ fun j _ f _=>iz rfl (show 6<19 by decide) j f).re 5 rfl rfl _ fun j hj f hf=>(congrArg (List.getD · f undef) (FG (f:=s.l.wt) (g:=s.wh))).trans (A.upd j hj f hf)
 refine O1 F af 47 44 #[ptr s.gm,.agg #[i6 (s.l.now+d),i6 t,i6 s.l.wl,i6 1,.bool false]] (by kernel_rfl) (by kernel_rfl) (by decide) S3 fun eN uV=>?_
 refine Ls F Hz (s:=RS.c8 {s with ta:=some tg} g' aj bA t l) ⟨s.l.now+d,t,s.l.wl,1,false⟩ h3 ⟨hv.a,hv.t,A.vc,hv.e⟩ (by have:=S3.sz;omega) fy fun g2 jP Il w4 h4 NO oJ=>uV _ _ fun a4 yf fC=>?_
 have S4:St Ok w4.heap.size 49 _ _ 0 a4 w4:=⟨yf,h4,rfl⟩;have eu:=S3.sz;generalize w4.heap.size=B4 at*;refine zv F aL (fun a wr h=>hB a wr (by omega)) af 6 [] [] [] [(8,i6 s.l.wl)] 66 [true] [] [] [] [] (by kernel_rfl) (by kernel_rfl) (by simp) (by simp) (by simp) S4 fun a5 w5 S5 dU _=>?_
 refine dA F S5 af aJ (by rw[dU,fC,bD,aW,aG,hd]) [] (i6 s.l.wl) ?_;exact K g' aj bA g2 jP Il w5 S5.au NO (by have:=S5.sz;omega)
end
section
variable{main:Bool}{B:Nat}{Ok:Addr→Bool→Prop}{Ψ:Goroutine→World→Prop}
abbrev RS.Ze(s:RS)(t:Nat):RS:={s with l:={s.l with tk:=upd s.l.tk t {s.l.tk t with e:=true}}}
theorem Tl(F:aC prog main (DX Ok) Ψ)(hB:HB B Ok){cf:Frame}{cs:List Frame}{w:World}{s:RS}{C:List ah}{tg:Addr}{t c:Nat}{b:Bk}{ho:Option Addr}{hl hc:Nat}(hS:Sat Ok w (mR s++C))(ey:B≤w.heap.size)(jy:s.ta=some tg)(ht:t<s.l.tl)(hf:(s.l.tk t).f<0)(lR:(s.l.tk t).c=c)(hcn:c<s.V.nc)(K:∀w',Sat Ok w' (mR {s with oh:=upd s.oh c (.slice ho hl hc),l:=s.l.end_ t b}++C)→w.heap.size≤w'.heap.size→Ψ (G (cf.finish (.tuple #[])) cs) w'):
 Ψ (G (Frame.enter prog 100 #[ptr s.gm,i6 t,p9 b (.slice ho hl hc)] .normal) (cf::cs)) w:=by
 obtain⟨s,rfl⟩:=RS.lV jy;refine lP f100 func100 _ rfl fun bb a af aJ hd hA=>?_
 have oQ:HB w.heap.size Ok:=fun a wr h=>hB a wr (Nat.le_trans ey h)
 have S:St Ok w.heap.size _ [(0,ptr s.gm),(1,i6 t),(2,p9 b (.slice ho hl hc))] _ 0 a w:=⟨hA,hS,rfl⟩;have su:t<s.l.tl:=ht;have nP:(s.l.tk t).f<0:=hf;have eP:(s.l.tk t).c=c:=lR;have aaq:c<s.V.nc:=hcn;generalize w.heap.size=B' at*;refine bk F aL oQ af 14 [(1,(0,4),true),(4,(t,5),false)] [(true,false)] [] [(5,ptr B'),(0,ptr s.gm),(1,i6 t)] (fun _=>bR B' [i6 b.k,i6 b.n,.slice ho hl hc]::(gM (mR (RS.Ze {s with ta:=some tg} t)) 3 {vR (some tg) 19 (fun j=>FM (s.l.tk j)) s.l.tl s.tc 131 with vl:=vf (fun j f=>(FM (s.l.tk j)).getD f undef) t 5 (.bool true)}++C)) 1 14 [] [] [] [((t:Int),s.l.tl)] [(t,s.l.tl)] (by kernel_rfl) (by kernel_rfl) (by simp) (by simp;omega) (by simp;omega) S fun a1 w1 S1 aG _ _=>?_
 replace S1:St Ok B' _ _ (bR B' [i6 b.k,i6 b.n,.slice ho hl hc]::(mR (RS.Ze {s with ta:=some tg} t)++C)) 1 a1 w1:=⟨S1.env,S1.au.re 4 rfl rfl _ fun j _ f _=>iz rfl (show 5<19 by decide) j f,S1.sz⟩;have hq:upd s.l.tk t {s.l.tk t with e:=true} t={s.l.tk t with e:=true}:=by simp[upd]
 refine zv F aL oQ af 27 [(1,(0,4),true),(4,(t,1),false),(1,(0,4),true),(4,(t,0),false)] [(true,false),(false,false),(true,false)] [] [(6,i6 (upd s.l.tk t {s.l.tk t with e:=true} t).c),(5,ptr B'),(0,ptr s.gm)] 41 [false] [] [(decide ((upd s.l.tk t {s.l.tk t with e:=true} t).f≥0),false)] [((t:Int),s.l.tl),((t:Int),s.l.tl)] [(t,s.l.tl),(t,s.l.tl)] (by kernel_rfl) (by kernel_rfl) (by simp[hq];omega) (by simp;omega) (by simp;omega) S1 fun a2 w2 S2 aW _=>?_
 rw[hq,show({s.l.tk t with e:=true}:Pe).c=c from eP] at S2;refine bk F aL oQ af 5 [(1,(0,8),true),(1,(0,2),true),(0,(0,0),true),(0,(0,1),true),(0,(0,2),true),(9,(c,0),false),(9,(c,1),false),(9,(c,2),false),(9,(c,3),false)] [(true,false)] [17] [] (fun _=>bR B' [i6 b.k,i6 b.n,.slice ho hl hc]::(gM (mR {s with ta:=some tg,oh:=upd s.oh c (.slice ho hl hc),l:=s.l.end_ t b}) 8 {fR s.oa 4 (fun j=>zF (s.l.ou j,s.oh j)) s.V.nc true with vl:=vf (vf (vf (vf (fun j f=>(zF (s.l.ou j,s.oh j)).getD f undef) c 0 (i6 s.l.now)) c 1 (i6 b.k)) c 2 (i6 b.n)) c 3 (.slice ho hl hc)}++C)) 1 46 [false] [17] [] [((c:Int),s.V.nc)] [(c,s.V.nc),(c,s.V.nc),(c,s.V.nc),(c,s.V.nc)] (by kernel_rfl) (by kernel_rfl) (by simp) (by simp;omega) (by simp;omega) S2 fun a3 w3 S3 bD _ _=>?_
 refine dA F S3 af aJ (by rw[bD,aW,aG,hd]) [] (.tuple #[]) ?_;have en:(s.l.tk t).c.toNat=c:=by rw[eP];rfl
 refine K w3 (S3.au.tail.re 8 rfl rfl _ fun j _ f hf=>?_) (by have:=S3.sz;omega);refine Eq.trans ?_ (yj (C:=zF) (g:=fun j=>(s.l.ou j,s.oh j)) (r:=(⟨s.l.now,b⟩,.slice ho hl hc)) rfl rfl j f hf)
 show(zF (upd s.l.ou (s.l.tk t).c.toNat ⟨s.l.now,b⟩ j,upd s.oh c (.slice ho hl hc) j)).getD f undef=_
 rw[en];unfold upd;by_cases e:j=c<;>simp[e]
end
section
variable{main:Bool}{B:Nat}{Ok:Addr→Bool→Prop}{Ψ:Goroutine→World→Prop}
theorem RS.Mt{s:RS}{g:Addr}(h:s.aa=some g):∃s0:RS,s={s0 with aa:=some g}:=⟨s,by cases s;simp at h;subst h;rfl⟩
theorem Gx(F:aC prog main (DX Ok) Ψ)(hB:HB B Ok){b:Frame}(af:b.kind=.normal)(aJ:b.fn=45){cf:Frame}{cs:List Frame}{s:RS}{C:List ah}{g:Addr}(fy:s.l.al<1000000000):
 ∀m i,i+m=s.l.al→∀a w,a.defers=[]→St Ok B 48 [(4,i6 i),(3,i6 (cv s.l.ag i)),(0,ptr s.gm)] (mR {s with aa:=some g}++C) 0 a w→(∀w',Sat Ok w' (mR {s with aa:=some g}++C)→w'.heap.size=B→Ψ (G (cf.finish (i6 (cv s.l.ag s.l.al))) cs) w')→Ψ (G (b.at a (pc prog 45 15 [] [])) (cf::cs)) w
 |0,i,hi,a,w,hd,S,K=>by
  refine zv F aL hB af 18 [(0,(0,3),true)] [(false,false)] [] [(2,i6 (cv s.l.ag i))] 33 [false] [] [(decide ((i:Int)<s.l.al),false)] [] [] (by kernel_rfl) (by kernel_rfl) (by simp;omega) (by simp) (by simp) S fun a1 w1 S1 aG _=>?_
  refine dA F S1 af aJ (by rw[aG,hd]) [] (i6 (cv s.l.ag i)) ?_;have e:i=s.l.al:=by omega
  rw[e];exact K w1 S1.au S1.sz
 |m+1,i,hi,a,w,hd,S,K=>by
  have hw:IntKind.wrap .i64 ((i:Int)+1)=((i+1:Nat):Int):=by rw[bI (by omega) (by omega)];rfl
  have fin:∀(z:Int),cv s.l.ag (i+1)=z→(∀a' w',St Ok B 48 [(4,i6 (IntKind.wrap .i64 ((i:Int)+1))),(3,i6 z),(0,ptr s.gm)] (mR {s with aa:=some g}++C) 0 a' w'→a'.defers=a.defers→Ψ (G (b.at a' (pc prog 45 15 [] [])) (cf::cs)) w'):=fun z hz a' w' S' oD=>by
   rw[hw,←hz] at S';exact Gx F hB af aJ fy m (i+1) (by omega) a' w' (by rw[oD,hd]) S' K
  by_cases ho:(s.l.ag i).o=true
  ·refine zv F aL hB af 30 [(0,(0,3),true),(0,(0,3),true),(1,(i,4),false)] [(true,false),(true,false),(false,false),(false,false),(false,false),(false,false),(false,true)] [29] [(4,i6 (IntKind.wrap .i64 ((i:Int)+1))),(3,i6 (cv s.l.ag i)),(0,ptr s.gm)] 15 [] [] [(!(s.l.ag i).o,false),(!(s.l.ag i).o,false),(!(s.l.ag i).o,false),(!(s.l.ag i).o,false),(decide ((i:Int)<s.l.al),true)] [((i:Int),s.l.al)] [(i,s.l.al)] (by kernel_rfl) (by kernel_rfl) (by simp[ho];omega) (by simp;omega) (by simp;omega) S fun a1 w1 S1 aG _=>fin _ (by simp[cv,ho]) a1 w1 S1 aG
  ·have eF:(s.l.ag i).o=false:=by simpa using ho
   rcases tE s.l.ag i with hz|⟨k,hk,hz⟩
   ·rw[hz] at S
    exact zv F aL hB af 33 [(0,(0,3),true),(0,(0,3),true),(1,(i,4),false)] [(true,false),(true,false),(true,false),(true,false),(true,false),(true,true),(true,true),(true,true),(true,true),(true,true),(true,true),(true,true),(true,true),(true,true),(true,true),(true,true),(true,true),(true,true),(true,true),(true,true),(true,true),(true,true),(true,false),(true,true)] [29] [(4,i6 (IntKind.wrap .i64 ((i:Int)+1))),(3,i6 i),(0,ptr s.gm)] 15 [] [] [(!(s.l.ag i).o,true),(!(s.l.ag i).o,true),(!(s.l.ag i).o,true),(!(s.l.ag i).o,true),(decide ((i:Int)<s.l.al),true)] [((i:Int),s.l.al)] [(i,s.l.al)] (by kernel_rfl) (by kernel_rfl) (by simp[eF];omega) (by simp;omega) (by simp;omega) S fun a1 w1 S1 aG _=>fin _ (by simp[cv,eF,hz]) a1 w1 S1 aG
   ·rw[hz] at S
    by_cases hl:(s.l.ag i).a<(s.l.ag k).a
    ·exact zv F aL hB af 33 [(0,(0,3),true),(0,(0,3),true),(1,(i,4),false),(0,(0,3),true),(1,(i,0),false),(0,(0,3),true),(1,(k,0),false)] [(true,false),(true,false),(true,false),(true,false),(true,false),(false,true),(false,true),(false,true),(false,true),(false,true),(false,true),(true,false),(false,true),(false,true),(false,true),(false,true),(false,true),(false,true),(false,true),(false,true),(true,false),(false,true),(false,true),(false,true),(true,false),(true,false)] [29] [(4,i6 (IntKind.wrap .i64 ((i:Int)+1))),(3,i6 i),(0,ptr s.gm)] 15 [] [] [(decide ((s.l.ag i).a<(s.l.ag k).a),true),(!(s.l.ag i).o,true),(!(s.l.ag i).o,true),(!(s.l.ag i).o,true),(!(s.l.ag i).o,true),(decide ((i:Int)<s.l.al),true)] [((k:Int),s.l.al),((i:Int),s.l.al),((i:Int),s.l.al)] [(k,s.l.al),(i,s.l.al),(i,s.l.al)] (by kernel_rfl) (by kernel_rfl) (by simp[eF,hl];omega) (by simp;omega) (by simp;omega) S fun a1 w1 S1 aG _=>fin _ (by simp[cv,eF,hz];omega) a1 w1 S1 aG
    ·exact zv F aL hB af 30 [(0,(0,3),true),(0,(0,3),true),(1,(i,4),false),(0,(0,3),true),(1,(i,0),false),(0,(0,3),true),(1,(k,0),false)] [(true,false),(true,false),(true,false),(true,false),(true,false),(false,true),(false,true),(false,true),(false,true),(false,true),(false,true),(true,false),(false,true),(false,true),(false,true),(false,true),(false,true),(false,true),(false,true),(false,true),(true,false),(false,true),(false,true),(false,true),(true,false),(false,false)] [29] [(4,i6 (IntKind.wrap .i64 ((i:Int)+1))),(3,i6 k),(0,ptr s.gm)] 15 [] [] [(decide ((s.l.ag i).a<(s.l.ag k).a),false),(!(s.l.ag i).o,true),(!(s.l.ag i).o,true),(!(s.l.ag i).o,true),(!(s.l.ag i).o,true),(decide ((i:Int)<s.l.al),true)] [((k:Int),s.l.al),((i:Int),s.l.al),((i:Int),s.l.al)] [(k,s.l.al),(i,s.l.al),(i,s.l.al)] (by kernel_rfl) (by kernel_rfl) (by simp[eF,hl];omega) (by simp;omega) (by simp;omega) S fun a1 w1 S1 aG _=>fin _ (by simp[cv,eF,hz];omega) a1 w1 S1 aG
theorem Ny(F:aC prog main (DX Ok) Ψ)(hB:HB B Ok){cf:Frame}{cs:List Frame}{w:World}{s:RS}{C:List ah}{g:Addr}(hS:Sat Ok w (mR s++C))(ey:B≤w.heap.size)(haa:s.aa=some g)(fy:s.l.al<1000000000)(K:∀w',Sat Ok w' (mR s++C)→w'.heap.size=w.heap.size→Ψ (G (cf.finish (i6 (cv s.l.ag s.l.al))) cs) w'):Ψ (G (Frame.enter prog 45 #[ptr s.gm] .normal) (cf::cs)) w:=by
 obtain⟨s,rfl⟩:=RS.Mt haa;refine lP f45 func45 _ rfl fun bb a af aJ hd hA=>?_
 have oQ:HB w.heap.size Ok:=fun a wr h=>hB a wr (Nat.le_trans ey h)
 have S:St Ok w.heap.size _ [(0,ptr s.gm)] _ 0 a w:=⟨hA,hS,rfl⟩;generalize w.heap.size=B' at*;refine zv F aL oQ af 15 [] [] [] [(4,i6 (0:Nat)),(3,i6 (-1)),(0,ptr s.gm)] 15 [] [] [] [] [] (by kernel_rfl) (by kernel_rfl) (by simp) (by simp) (by simp) S fun a1 w1 S1 aG _=>?_
 exact Gx F oQ af aJ fy s.l.al 0 (Nat.zero_add _) a1 w1 (by rw[aG,hd]) S1 K
end
end Go.Proofs.YtobagnjnbmgidaaGreatDoor
