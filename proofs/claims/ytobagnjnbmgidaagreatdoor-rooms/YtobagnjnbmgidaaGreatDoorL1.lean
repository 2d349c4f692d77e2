import Derived.Test.YtobagnjnbmgidaaGreatDoorR10
set_option linter.all false
set_option maxHeartbeats 0
set_option maxRecDepth 100000
namespace Go.Proofs.YtobagnjnbmgidaaGreatDoor
open Go.Conc Go.RowKit Tryz
variable{a:Addr}{st:Int}{N0 c0 cap cA iB el Y:Nat}{ou:Nat->Se}{ev:Nat->OZ}{r:aH}{C M:aW}{D:aj}{J S:aC}{sJ qG:yX}{T:oF}{R:cO}{e1 e2 sL U X:eP}
variable{Q:Bool}{B Z n m:Nat}{E:dh}{O:gi}{w wI:aj}{Post:qz}{l:aN}{W sa:eP}{L:oF}{g:Nat->Cl}
theorem AM(F:aB prog Q (DX E) O)(l:HB B E){J:aC}(a:J.kind=.normal)(h:J.fn=25){S:aC}{R:cO}{M:aW}{o n:Addr}{c b:Nat}{L:List iN}(g:L.length<1000000){p:Nat}(t:B<=p):
 ∀(m i:Nat)(j:Act)(w:aj),i+m=L.length->j.defers=[]->w.heap.size=p->St E p 26 [(5,i6 i),(0,.slice (some o) L.length c),(1,.slice (some n) L.length b)] (gQ o L::gQ n L::M) 0 j w->
   (∀D,Sat E D M->w.heap.size<=D.heap.size->O (G (S.finish (.bool true)) R) D)->O (G (J.at j (pc prog 25 22 [false] [])) (S::R)) w
 |0,i,j,w,y,e,r,v,K=>by
  have u:decide ((i:Int)<(L.length:Int))=false:=by simp;omega
  refine oH F l a h e v 14 [] [0] [] 4 (.bool true) (λM=>M) 0 36 4 [] [(decide ((↑i:Int)<(↑(List.length L):Int)),false)] [] [] λq k f s=>K q k.sat.tail.tail (by omega)
 |m+1,i,j,w,y,e,r,v,K=>by
  have u:decide ((i:Int)<(L.length:Int))=true:=by simp;omega
  refine aX F l a e v 14 [0,i,0,103,1,i,0,103] [2,2,2] [8] [(24,.agg #[i6 (List.getD L i (iN.mk 0 0 0)).k,i6 (List.getD L i (iN.mk 0 0 0)).l,i6 (List.getD L i (iN.mk 0 0 0)).n]),(20,.agg #[i6 (List.getD L i (iN.mk 0 0 0)).k,i6 (List.getD L i (iN.mk 0 0 0)).l,i6 (List.getD L i (iN.mk 0 0 0)).n]),(5,i6 i),(0,.slice (some o) (List.length L) c),(1,.slice (some n) (List.length L) b)] (λM=>M) 0 36 6 [8] [(decide ((↑i:Int)<(↑(List.length L):Int)),true)] [((↑i:Int),List.length L),((↑i:Int),List.length L)] [(6,(i,List.length L))] λe q k e f s r=>Xc F a 20 24 25 48 [(L.getD i ⟨0,0,0⟩).k,(L.getD i ⟨0,0,0⟩).l,(L.getD i ⟨0,0,0⟩).n] (by kernel_rfl) (by kernel_rfl) (by kernel_rfl) (by decide) rfl rfl k λs r d=>?_;rw[show jB (pc prog 25 36 (Bo 6) [8])=pc prog 25 37 [false,true] [8] by kernel_rfl];have v:St E p 26 _ _ 0 s q:=⟨r,k.sat,k.sz⟩;have k:=f;replace d:=d.trans e;have f:IntKind.wrap .i64 ((i:Int)+1)=((i+1:Nat):Int):=by rw[aA (by omega) (by omega)];rfl
  refine aq F l a d v 10 [] [1] [] [(5,i6 (IntKind.wrap .i64 ((↑i:Int)+1))),(0,.slice (some o) (List.length L) c),(1,.slice (some n) (List.length L) b)] (λM=>M) 0 47 10 [8] λk c x b e e e=>?_;rw[f]at x;rw[show pc prog 25 47 (Bo 10) [8]=pc prog 25 22 [false] [] by kernel_rfl];exact AM F l a h g t m (i+1) k c (by omega) b (by omega) x λD u a=>K D u (by omega)
theorem AL(F:aB prog Q (DX E) O)(i:HB B E){h g:Addr}{b a:Nat}{L:List iN}(c:L.length<1000000)(d:Sat E w (gQ h L::gQ g L::M))(e:B<=w.heap.size)(K:∀D,Sat E D M->w.heap.size<=D.heap.size->O (G (S.finish (.bool true)) R) D):O (G (Frame.enter prog 25 #[.slice (some h) L.length b,.slice (some g) L.length a] .normal) (S::R)) w:=by
 have e:((L.length:Int) !=(L.length:Int))=false:=by simp
 refine cJ func25 d 26 λJ d d d d f e k j=>aX F i d e k 22 [] [0] [] [(5,i6 0),(0,.slice (some h) (List.length L) b),(1,.slice (some g) (List.length L) a)] (λM=>M) 0 22 2 [] [((↑(List.length L):Int) !=(↑(List.length L):Int),false)] [] [] λg b h a e e e=>AM F i d f c (by omega) L.length 0 g b (bK _) a (by omega) h λD a b=>K D a (by omega)
theorem vE(F:aB prog Q (DX E) O)(f:HB B E){h g:eP}{b a:Nat}(c:Sat E w M)(d:B<=w.heap.size)(K:∀D,Sat E D M->w.heap.size<=D.heap.size->O (G (S.finish (.bool true)) R) D):O (G (Frame.enter prog 25 #[.slice h 0 b,.slice g 0 a] .normal) (S::R)) w:=by
 refine cJ func25 c 26 λJ c c c c e d j i=>aq F f c d j 22 [] [1] [] [(5,i6 0),(0,.slice h 0 b),(1,.slice g 0 a)] (λM=>M) 0 22 2 [] λa a d a b b b=>bB F f c e a d 14 [] [1] [] 4 (.bool true) (λM=>M) 0 36 4 [] λa c b b=>K a c.sat (by omega)
theorem Ic(F:aB prog Q (DX E) O)(d:HB B E){f e:ay}{L:List iN}(b:L.length<1000000)(n:fu M f L)(i:fu M e L)(c:Sat E w M)(a:B<=w.heap.size)(K:∀D,Sat E D M->w.heap.size<=D.heap.size->O (G (S.finish (.bool true)) R) D):O (G (Frame.enter prog 25 #[f,e] .normal) (S::R)) w:=by
 rcases n with ⟨rfl,g⟩|⟨p,n,l,rfl,m⟩
 .subst g;rcases i with ⟨rfl,_⟩|⟨o,j,k,rfl,h⟩
  .exact vE F d c a K
  .exact vE F d c a K
 .rcases i with ⟨rfl,g⟩|⟨o,j,k,rfl,h⟩
  .subst g;exact vE F d c a K
  .have f:=c.dup h rfl;have e:=f.dup (i:=l+1) (r:=gQ p L) m rfl;exact AL F d b e a K
abbrev sK(e:eP)(ev:Nat->OZ)(el:Nat):aH:=fR (e.getD ⟨0,0,none⟩) 5 (λj=>yt (ev j)) el false
abbrev nv(o:eP)(ou:Nat->Se)(oh:yX)(n:Nat):aH:=fR (o.getD ⟨0,0,none⟩) 4 (λj=>yL (ou j,oh j)) n false
theorem EH(F:aB prog Q (DX E) O)(n:HB B E){J:aC}(b:J.kind=.normal){R:cO}{M:aW}{z y:ay}{e1 e2:eP}{el C A d c:Nat}{ev:Nat->OZ}(s:el<1000000000)(I:0<el->∃a,e1=some a)(H:0<el->∃a,e2=some a){h:Nat}(r:B<=h):
 ∀(m i:Nat)(k:Act)(w:aj),i+m=el->k.defers=[]->w.heap.size=h->St E h 89 [(5,i6 i),(2,ptr d),(3,ptr c)] (bR c [y,.slice e2 el A]::bR d [z,.slice e1 el C]::sK e1 ev el::sK e2 ev el::M) 0 k w->
   (∀v D,v.defers=[]->D.heap.size=h->St E h 89 [(6,i6 (0:Nat)),(2,ptr d),(3,ptr c)] (bR c [y,.slice e2 el A]::bR d [z,.slice e1 el C]::sK e1 ev el::sK e2 ev el::M) 0 v D->O (G (J.at v (pc prog 32 53 [false,false] [])) R) D)->O (G (J.at k (pc prog 32 35 [false] [])) R) w
 |0,i,k,w,N,g,p,x,K=>by
  have P:decide ((i:Int)<(el:Int))=false:=by simp;omega
  refine aX F n b g x 18 [1,0,1,1] [0] [] [(6,i6 0),(2,ptr d),(3,ptr c)] (λM=>M) 0 53 4 [] [(decide ((↑i:Int)<(↑el:Int)),false)] [] [] λu o l f j q t=>K u o f (by omega) l
 |m+1,i,k,w,N,g,p,x,K=>by
  have P:decide ((i:Int)<(el:Int))=true:=by simp;omega
  obtain⟨u,rfl⟩:=I (by omega);obtain⟨a,rfl⟩:=H (by omega);refine aX F n b g x 15 [1,0,1,1,1,0,1,1,2,i,0,105,0,0,1,1,3,i,0,105] [2,2,2] [10] [(42,.agg #[i6 (ev i).a,i6 (ev i).c,i6 (ev i).l,i6 (ev i).w,i6 (ev i).n]),(37,.agg #[i6 (ev i).a,i6 (ev i).c,i6 (ev i).l,i6 (ev i).w,i6 (ev i).n]),(5,i6 i),(2,ptr d),(3,ptr c)] (λM=>M) 0 50 6 [10] [(decide ((↑i:Int)<(↑el:Int)),true)] [((↑i:Int),el),((↑i:Int),el)] [(10,(i,el))] λu o l f j q t=>Xc F b 37 42 43 55 [(ev i).a,(ev i).c,(ev i).l,(ev i).w,(ev i).n] (by kernel_rfl) (by kernel_rfl) (by kernel_rfl) (by decide) rfl rfl l λg a e=>?_;rw[show jB (pc prog 32 50 (Bo 6) [10])=pc prog 32 51 [false,true] [10] by kernel_rfl];have p:St E h 89 _ _ 0 g o:=⟨a,l.sat,l.sz⟩;have a:=j;replace e:=e.trans f;have f:IntKind.wrap .i64 ((i:Int)+1)=((i+1:Nat):Int):=by rw[aA (by omega) (by omega)];rfl
  refine aq F n b e p 10 [] [1] [] [(5,i6 (IntKind.wrap .i64 ((↑i:Int)+1))),(2,ptr d),(3,ptr c)] (λM=>M) 0 61 10 [10] λg c L a d d d=>?_;rw[f]at L;rw[show pc prog 32 61 (Bo 10) [10]=pc prog 32 35 [false] [] by kernel_rfl];exact EH F n b s I H r m (i+1) g c (by omega) a (by omega) L K
theorem EG(F:aB prog Q (DX E) O)(u:HB B E){J:aC}(c:J.kind=.normal)(I:J.fn=32){S:aC}{R:cO}{A y:ay}{p o:eP}{n N L e d:Nat}{ou:Nat->Se}{sJ qG:yX}(X:n<=9)(h1:0<n->∃a,p=some a)(h2:0<n->∃a,o=some a):
 ∀(m i:Nat)(M:aW)(P:Act)(w:aj)(b:Nat),i+m=n->(∀j,j<n->(ou j).b.ch.length<1000000/\fu M (sJ j) (ou j).b.ch/\fu M (qG j) (ou j).b.ch)->P.defers=[]->B<=b->w.heap.size=b->St E b 89 [(6,i6 i),(2,ptr e),(3,ptr d)] (bR d [.slice o n L,y]::bR e [.slice p n N,A]::nv p ou sJ n::nv o ou qG n::M) 0 P w->
   (∀D,Sat E D M->w.heap.size<=D.heap.size->O (G (S.finish (.bool true)) R) D)->O (G (J.at P (pc prog 32 53 [false,false] [])) (S::R)) w
 |0,i,M,P,w,b,hi,H,q,Y,C,Z,K=>by
  have g1:decide ((i:Int)<(n:Int))=false:=by simp;omega
  refine oH F u c I q Z 15 [1,0,0,1] [0] [] 4 (.bool true) (λM=>M) 0 68 8 [] [(decide ((↑i:Int)<(↑n:Int)),false)] [] [] λU x V W=>K U x.sat.tail.tail.tail.tail (by omega)
 |m+1,i,M,P,w,b,hi,H,q,Y,C,Z,K=>by
  have g1:decide ((i:Int)<(n:Int))=true:=by simp;omega
  obtain⟨h,rfl⟩:=h1 (by omega);obtain⟨g,rfl⟩:=h2 (by omega);obtain⟨G,t,s⟩:=H i (by omega);obtain⟨a,o,p,e1⟩:∃r l k,sJ i=.slice r l k:=by
   rcases t with ⟨z,_⟩|⟨Y,cap,_,z,_⟩
   .simp_all
   simp_all
  obtain⟨w,B,C,e2⟩:∃r l k,qG i=.slice r l k:=by
   rcases s with ⟨z,_⟩|⟨Y,cap,_,z,_⟩
   .simp_all
   simp_all
  refine aX F u c q Z 21 [1,0,0,1,1,0,0,1,2,i,0,104] [2,2] [] [(7,ptr b),(55,.agg #[i6 (ou i).a,i6 (ou i).b.k,i6 (ou i).b.n,aH.get (aH.mk (λj=>Addr.add (Addr.add (Option.getD (some h) (Addr.mk 0 0 none)) (j.fst*4)) j.snd) [] (λj f=>List.getD (yL (ou j,sJ j)) f undef) n 4 false none) (i,3)]),(6,i6 i),(2,ptr e),(3,ptr d)] (λM=>bR (b) [i6 0,i6 0,i6 0,.slice none 0 0]::(M)) 1 74 12 [] [(decide ((↑i:Int)<(↑n:Int)),true)] [((↑i:Int),n)] [(4,(i,n))] λq U x k V W l=>?_;replace x:St E b 89 [(7,ptr b),(55,.agg #[i6 (ou i).a,i6 (ou i).b.k,i6 (ou i).b.n,sJ i]),(6,i6 i),(2,ptr e),(3,ptr d)] _ 1 q U:=x;rw[e1]at x;refine aX F u c k x 10 [0,0,0,4,1,0,0,1,4,i,0,104] [2] [] [(8,ptr (b+1)),(60,.agg #[i6 (ou i).a,i6 (ou i).b.k,i6 (ou i).b.n,aH.get (aH.mk (λj=>Addr.add (Addr.add (Option.getD (some g) (Addr.mk 0 0 none)) (j.fst*4)) j.snd) [] (λj f=>List.getD (yL (ou j,qG j)) f undef) n 4 false none) (i,3)]),(7,ptr b),(6,i6 i),(2,ptr e),(3,ptr d)] (λM=>bR (b+1) [i6 0,i6 0,i6 0,.slice none 0 0]::(bh 0 (0,3) (.slice a o p) (bh 0 (0,2) (i6 (ou i).b.n) (bh 0 (0,1) (i6 (ou i).b.k) (bh 0 (0,0) (i6 (ou i).a) (M)))))) 2 84 12 [] [] [((↑i:Int),n)] [(4,(i,n))] λq k T f l l l=>?_;replace T:St E b 89 [(8,ptr (b+1)),(60,.agg #[i6 (ou i).a,i6 (ou i).b.k,i6 (ou i).b.n,qG i]),(7,ptr b),(6,i6 i),(2,ptr e),(3,ptr d)] (bR (b+1) [i6 0,i6 0,i6 0,.slice none 0 0]::bR b [i6 (ou i).a,i6 (ou i).b.k,i6 (ou i).b.n,.slice a o p]::bR d [.slice (some g) n L,y]::bR e [.slice (some h) n N,A]::nv (some h) ou sJ n::nv (some g) ou qG n::M) 2 q k:=T;rw[e2]at T;refine aq F u c f T 8 [0,0,0,4,1,0,3,1,0,0,3,1] [] [] [(64,.slice w B C),(62,.slice a o p),(8,ptr (b+1)),(7,ptr b),(6,i6 i),(2,ptr e),(3,ptr d)] (λM=>bh 0 (0,3) (.slice w B C) (bh 0 (0,2) (i6 (ou i).b.n) (bh 0 (0,1) (i6 (ou i).b.k) (bh 0 (0,0) (i6 (ou i).a) (M))))) 2 92 12 [] λf f k f l l l=>bu F c f k 65 25 #[.slice a o p,.slice w B C] λf f=>?_;have l:=k.sat;rw[e1]at t;rw[e2]at s
  let l:List aH:=[bR (b+1) [i6 (ou i).a,i6 (ou i).b.k,i6 (ou i).b.n,.slice w B C],bR b [i6 (ou i).a,i6 (ou i).b.k,i6 (ou i).b.n,.slice a o p],bR d [.slice (some g) n L,y],bR e [.slice (some h) n N,A],nv (some h) ou sJ n,nv (some g) ou qG n]
  refine Ic F u G (t.app l) (s.app l) k.sat (by omega) λk l k=>f _ _ _ l λf z l f k=>?_;have q:IntKind.wrap .i64 ((i:Int)+1)=((i+1:Nat):Int):=by rw[aA (by omega) (by omega)];rfl
  have k:((ou i).a !=(ou i).a)=false:=by simp
  have k:((ou i).b.k !=(ou i).b.k)=false:=by simp
  have k:((ou i).b.n !=(ou i).b.n)=false:=by simp
  refine aX F u c f l 37 [1,0,0,1,0,0,0,1,1,0,1,1,0,0,1,1,1,0,2,1,0,0,2,1] [1,1,1,1,1,0,1,1,1,1,0,1,1,1,1,0] [] [(6,i6 (IntKind.wrap .i64 ((↑i:Int)+1))),(87,.bool ((ou i).b.n !=(ou i).b.n)),(86,i6 (ou i).b.n),(85,.pointer (some (Addr.mk (b+1) 2 none))),(84,i6 (ou i).b.n),(83,.pointer (some (Addr.mk b 2 none))),(80,.bool ((ou i).b.k !=(ou i).b.k)),(79,i6 (ou i).b.k),(78,.pointer (some (Addr.mk (b+1) 1 none))),(77,i6 (ou i).b.k),(76,.pointer (some (Addr.mk b 1 none))),(73,.bool ((ou i).a !=(ou i).a)),(72,i6 (ou i).a),(71,ptr (b+1)),(70,i6 (ou i).a),(69,ptr b),(2,ptr e),(3,ptr d)] (λM=>M) 0 130 20 [] [((ou i).b.n !=(ou i).b.n,false),((ou i).b.k !=(ou i).b.k,false),((ou i).a !=(ou i).a,false)] [] [] λr k v f l l l=>?_;rw[q]at v;replace v:=v.dB [(6,i6 ((i+1:Nat):Int)),(2,ptr e),(3,ptr d)] rfl;rw[show pc prog 32 130 (Bo 20) []=pc prog 32 53 [false,false] [] by kernel_rfl];have l:=Sat.back (A:=[bR d [.slice (some g) n L,y],bR e [.slice (some h) n N,A],nv (some h) ou sJ n,nv (some g) ou qG n]) (Sat.back (A:=[bR b [i6 (ou i).a,i6 (ou i).b.k,i6 (ou i).b.n,.slice a o p],bR d [.slice (some g) n L,y],bR e [.slice (some h) n N,A],nv (some h) ou sJ n,nv (some g) ou qG n]) v.sat);exact EG F u c I X h1 h2 m (i+1) (bR b [i6 (ou i).a,i6 (ou i).b.k,i6 (ou i).b.n,.slice a o p]::bR (b+1) [i6 (ou i).a,i6 (ou i).b.k,i6 (ou i).b.n,.slice w B C]::M) r k z (by omega) (λj a=>⟨(H j a).1,(H j a).2.1.app [_,_],(H j a).2.2.app [_,_]⟩) f (by omega) (by omega) ⟨v.env,l,v.sz⟩ λD a b=>K D a.tail.tail (by omega)
theorem EF(F:aB prog Q (DX E) O)(o:HB B E){g f e d:Nat}{o1 o2:eP}(i:el<1000000000)(k:n<=9)(u:0<el->∃a,e1=some a)(t:0<el->∃a,e2=some a)(q:0<n->∃a,o1=some a)(p:0<n->∃a,o2=some a)(b:∀j,j<n->(ou j).b.ch.length<1000000/\fu M (sJ j) (ou j).b.ch/\fu M (qG j) (ou j).b.ch)(a:B<=w.heap.size)(a:Sat E w (sK e1 ev el::sK e2 ev el::nv o1 ou sJ n::nv o2 ou qG n::M))(K:∀D,Sat E D M->w.heap.size<=D.heap.size->O (G (S.finish (.bool true)) R) D):O (G (Frame.enter prog 32 #[.agg #[.slice o1 n g,.slice e1 el e],.agg #[.slice o2 n f,.slice e2 el d]] .normal) (S::R)) w:=by
 have c:((n:Int) !=(n:Int))=false:=by simp
 have c:((el:Int) !=(el:Int))=false:=by simp
 refine cJ func32 a 89 λJ a a c c m l s r=>aX F o c l s 35 [1,0,0,1,0,0,0,1,1,0,1,1,0,0,1,1] [0,1,1,1,1,1,1,0] [] [(5,i6 0),(3,ptr (a+1)),(2,ptr a)] (λM=>bR (a+1) [.slice o2 n f,.slice e2 el d]::(bR (a) [.slice o1 n g,.slice e1 el e]::(M))) 2 35 2 [] [((↑el:Int) !=(↑el:Int),false),((↑n:Int) !=(↑n:Int),false)] [] [] λv s h l r r r=>?_;replace h:=h.dB [(5,i6 ((0:Nat):Int)),(2,ptr a),(3,ptr (a+1))] rfl;refine EH F o c i u t (by omega) el 0 v s (bK _) l rfl ⟨h.env,h.sat,rfl⟩ λv t l i r=>?_;have u:=Sat.back (A:=[bR (a+1) [.slice o2 n f,.slice e2 el d],bR a [.slice o1 n g,.slice e1 el e],nv o1 ou sJ n,nv o2 ou qG n]) (Sat.back (A:=[sK e2 ev el,bR (a+1) [.slice o2 n f,.slice e2 el d],bR a [.slice o1 n g,.slice e1 el e],nv o1 ou sJ n,nv o2 ou qG n]) (C:=M) (r:=sK e1 ev el) (r.sat.perm ?_))
 .exact EG F o c m k q p n 0 (sK e2 ev el::sK e1 ev el::M) v t s.heap.size (bK _) (λj a=>⟨(b j a).1,(b j a).2.1.app [_,_],(b j a).2.2.app [_,_]⟩) l (by omega) i ⟨r.env,u,r.sz⟩ λD a b=>K D a.tail.tail (by omega)
 .exact(D2 (l₁:=[_,_]) (l₂:=[_,_])).append_right (nv o1 ou sJ n::nv o2 ou qG n::M)
theorem mF(F:aB prog Q (DX E) O)(o:HB B E)(n lo d:Int)(m:Sat E w M)(a:B<=w.heap.size)(K:∀D,Sat E D M->w.heap.size<=D.heap.size->O (G (S.finish (.bool (eB lo n d))) R) D):O (G (Frame.enter prog 42 #[i6 n,i6 lo,i6 d] .normal) (S::R)) w:=by
 by_cases p:lo<=n
 .have j:decide (n≥lo)=true:=by simp_all
  refine cJ func42 m 15 λJ r s q b c a l h=>oH F o b c a l 16 [] [2,3,3] [] 6 (.bool (decide (n<=d))) (λM=>M) 0 16 1 [] [(decide (n≥lo),true)] [] [] λf k g i=>?_;have e:eB lo n d=decide (n<=d):=by unfold eB;simp[p]
  rw[e]at K;exact K f k.sat (by omega)
 .have j:decide (n≥lo)=false:=by simp_all
  refine cJ func42 m 15 λJ r s q b c a l h=>oH F o b c a l 16 [] [0,1,1] [] 6 (.bool false) (λM=>M) 0 16 1 [] [(decide (n≥lo),false)] [] [] λf k g i=>?_;have e:eB lo n d=false:=by unfold eB;simp[p]
  rw[e]at K;exact K f k.sat (by omega)
theorem Mn(F:aB prog Q (DX E) O)(h:HB B E)(k a b c d e:Int)(hk:k<=5)(hS:Sat E w M)(yQ:B<=w.heap.size)(K:∀D,Sat E D M->w.heap.size<=D.heap.size->O (G (S.finish (.bool (aF k a b c d e))) R) D):O (G (Frame.enter prog 28 #[.agg #[i6 k,i6 a,i6 b,i6 c,i6 d,i6 e]] .normal) (S::R)) w:=by
 by_cases k1:k=1
 .subst k1;refine cJ func28 hS 81 λJ a0 q hn f g m Y P=>aq F h f m Y 25 [0,0,0,2] [3] [] [(9,i6 a),(1,ptr q)] (λM=>bR (q) [i6 1,i6 a,i6 b,i6 c,i6 d,i6 e]::(M)) 1 25 3 [] λa1 w1 H z N T o9=>bu F f z H 10 42 #[i6 a,i6 1,i6 9] λyS o=>mF F h a 1 9 H.sat (by omega) λw2 h2 yP=>o _ _ _ h2 λa2 B2 C l tM=>?_;cases i:eB 1 a 9<;>rw[i]at C
  .refine bB F h f g l C 23 [] [1,1,1,1,1,1,1,1,1] [] 2 (.bool false) (λM=>M) 0 49 3 [] λL r u x=>?_;rw[show aF 1 a b c d e=false by simp[aF,i]]at K;exact K L r.sat.tail (by omega)
  refine aq F h f l C 3 [0,0,2,1] [3,3] [] [(13,i6 b),(11,.bool true),(1,ptr q)] (λM=>M) 0 29 3 [] λa3 L r y u x mH=>bu F f y r 14 42 #[i6 b,i6 0,i6 1000] λDl n=>mF F h b 0 1000 r.sat (by omega) λw4 h4 FO=>n _ _ _ h4 λa4 B4 A j Bj=>?_;cases p:eB 0 b 1000<;>rw[p]at A
  .refine bB F h f g j A 19 [] [1,1,1,1,1,1] [] 2 (.bool false) (λM=>M) 0 49 3 [] λI s t v=>?_;rw[show aF 1 a b c d e=false by simp[aF,i,p]]at K;exact K I s.sat.tail (by omega)
  refine aq F h f j A 4 [0,0,3,1] [3,3] [] [(18,i6 c),(16,.bool true),(1,ptr q)] (λM=>M) 0 34 3 [] λa5 I s Yv t v qO=>bu F f Yv s 19 42 #[i6 c,i6 1,i6 9] λJC X=>mF F h c 1 9 s.sat (by omega) λw6 h6 Hf=>X _ _ _ h6 λa6 B6 S6 V YG=>?_;cases Z:eB 1 c 9<;>rw[Z]at S6
  .refine bB F h f g V S6 14 [] [1,1,1] [] 2 (.bool false) (λM=>M) 0 49 3 [] λw7 S7 OD YQ=>?_;rw[show aF 1 a b c d e=false by simp[aF,i,p,Z]]at K;exact K w7 S7.sat.tail (by omega)
  refine aq F h f V S6 4 [0,0,4,1] [3,3] [] [(23,i6 d),(21,.bool true)] (λM=>M) 0 39 3 [] λa7 w7 S7 CI OD YQ DJ=>bu F f CI S7 24 42 #[i6 d,i6 0,i6 10000] λRU W=>mF F h d 0 10000 S7.sat (by omega) λw8 h8 IV=>W _ _ _ h8 λa8 B8 S8 U FN=>?_;cases q4:eB 0 d 10000<;>rw[q4]at S8
  .refine bB F h f g U S8 9 [] [] [] 2 (.bool false) (λM=>M) 0 49 3 [] λw9 S9 Tl He=>?_;rw[show aF 1 a b c d e=false by simp[aF,i,p,Z,q4]]at K;exact K w9 S9.sat.tail (by omega)
  refine bB F h f g U S8 9 [] [] [] 2 (.bool true) (λM=>M) 0 49 3 [] λw9 S9 Tl He=>?_;rw[show aF 1 a b c d e=true by simp[aF,i,p,Z,q4]]at K;exact K w9 S9.sat.tail (by omega)
 have w:(k==1)=false:=by simp_all
 by_cases k2:k=2
 .subst k2;refine cJ func28 hS 81 λJ a0 q hn f g m Y P=>bB F h f g m Y 37 [0,0,0,1] [1,3] [] 2 (.bool true) (λM=>bR (q) [i6 2,i6 a,i6 b,i6 c,i6 d,i6 e]::(M)) 1 37 6 [] λw1 H N T=>K w1 H.sat.tail (by omega)
 have w:(k==2)=false:=by simp_all
 by_cases k3:k=3
 .subst k3;refine cJ func28 hS 81 λJ a0 q hn f g m Y P=>aq F h f m Y 37 [0,0,0,2] [1,1,3] [] [(31,i6 a),(1,ptr q)] (λM=>bR (q) [i6 3,i6 a,i6 b,i6 c,i6 d,i6 e]::(M)) 1 37 12 [] λa1 w1 H z N T o9=>bu F f z H 32 42 #[i6 a,i6 1,i6 1000] λyS o=>mF F h a 1 1000 H.sat (by omega) λw2 h2 yP=>o _ _ _ h2 λa2 B2 C l tM=>?_;cases i:eB 1 a 1000<;>rw[i]at C
  .refine bB F h f g l C 13 [] [1,1,1] [] 2 (.bool false) (λM=>M) 0 51 12 [] λL r u x=>?_;rw[show aF 3 a b c d e=false by simp[aF,i]]at K;exact K L r.sat.tail (by omega)
  refine aq F h f l C 3 [0,0,2,1] [3,3] [] [(35,i6 b),(33,.bool true)] (λM=>M) 0 41 12 [] λa3 L r y u x mH=>bu F f y r 36 42 #[i6 b,i6 1,i6 20] λDl n=>mF F h b 1 20 r.sat (by omega) λw4 h4 FO=>n _ _ _ h4 λa4 B4 A j Bj=>?_;cases p:eB 1 b 20<;>rw[p]at A
  .refine bB F h f g j A 9 [] [] [] 2 (.bool false) (λM=>M) 0 51 12 [] λI s t v=>?_;rw[show aF 3 a b c d e=false by simp[aF,i,p]]at K;exact K I s.sat.tail (by omega)
  refine bB F h f g j A 9 [] [] [] 2 (.bool true) (λM=>M) 0 51 12 [] λI s t v=>?_;rw[show aF 3 a b c d e=true by simp[aF,i,p]]at K;exact K I s.sat.tail (by omega)
 have w:(k==3)=false:=by simp_all
 by_cases k4:k=4
 .subst k4;refine cJ func28 hS 81 λJ a0 q hn f g m Y P=>aq F h f m Y 43 [0,0,0,2] [1,1,1,3] [] [(41,i6 a),(1,ptr q)] (λM=>bR (q) [i6 4,i6 a,i6 b,i6 c,i6 d,i6 e]::(M)) 1 43 24 [] λa1 w1 H z N T o9=>bu F f z H 42 42 #[i6 a,i6 1,i6 20] λyS o=>mF F h a 1 20 H.sat (by omega) λw2 h2 yP=>o _ _ _ h2 λa2 B2 C l tM=>?_;cases i:eB 1 a 20<;>rw[i]at C
  .refine bB F h f g l C 30 [] [1,1,1,1,1,1,1,1,1,1,1,1,1,1] [] 2 (.bool false) (λM=>M) 0 74 24 [] λL r u x=>?_;rw[show aF 4 a b c d e=false by simp[aF,i]]at K;exact K L r.sat.tail (by omega)
  refine aq F h f l C 5 [0,0,2,1,0,0,1,1] [3,3,3,3] [] [(47,i6 a),(43,.bool true),(45,i6 b),(1,ptr q)] (λM=>M) 0 49 24 [] λa3 L r y u x mH=>bu F f y r 48 42 #[i6 b,i6 1,i6 a] λDl n=>mF F h b 1 a r.sat (by omega) λw4 h4 FO=>n _ _ _ h4 λa4 B4 A j Bj=>?_;cases p:eB 1 b a<;>rw[p]at A
  .refine bB F h f g j A 24 [] [1,1,1,1,1,1,1,1,1] [] 2 (.bool false) (λM=>M) 0 74 24 [] λI s t v=>?_;rw[show aF 4 a b c d e=false by simp[aF,i,p]]at K;exact K I s.sat.tail (by omega)
  refine aq F h f j A 4 [0,0,3,1] [3,3] [] [(52,i6 c),(50,.bool true),(1,ptr q)] (λM=>M) 0 54 24 [] λa5 I s Yv t v qO=>bu F f Yv s 53 42 #[i6 c,i6 1,i6 100] λJC X=>mF F h c 1 100 s.sat (by omega) λw6 h6 Hf=>X _ _ _ h6 λa6 B6 S6 V YG=>?_;cases Z:eB 1 c 100<;>rw[Z]at S6
  .refine bB F h f g V S6 19 [] [1,1,1,1,1,1] [] 2 (.bool false) (λM=>M) 0 74 24 [] λw7 S7 OD YQ=>?_;rw[show aF 4 a b c d e=false by simp[aF,i,p,Z]]at K;exact K w7 S7.sat.tail (by omega)
  refine aq F h f V S6 4 [0,0,4,1] [3,3] [] [(57,i6 d),(55,.bool true),(1,ptr q)] (λM=>M) 0 59 24 [] λa7 w7 S7 CI OD YQ DJ=>bu F f CI S7 58 42 #[i6 d,i6 0,i6 1000] λRU W=>mF F h d 0 1000 S7.sat (by omega) λw8 h8 IV=>W _ _ _ h8 λa8 B8 S8 U FN=>?_;cases q4:eB 0 d 1000<;>rw[q4]at S8
  .refine bB F h f g U S8 14 [] [1,1,1] [] 2 (.bool false) (λM=>M) 0 74 24 [] λw9 S9 Tl He=>?_;rw[show aF 4 a b c d e=false by simp[aF,i,p,Z,q4]]at K;exact K w9 S9.sat.tail (by omega)
  refine aq F h f U S8 4 [0,0,5,1] [3,3] [] [(62,i6 e),(60,.bool true)] (λM=>M) 0 64 24 [] λw w9 S9 w Tl He B=>bu F f w S9 63 42 #[i6 e,i6 1,i6 9] λw w=>mF F h e 1 9 S9.sat (by omega) λB B G=>w _ _ _ B λw w yU Zl w=>?_;cases q5:eB 1 e 9<;>rw[q5]at yU
  .refine bB F h f g Zl yU 9 [] [] [] 2 (.bool false) (λM=>M) 0 74 24 [] λw B G U=>?_;rw[show aF 4 a b c d e=false by simp[aF,i,p,Z,q4,q5]]at K;exact K w B.sat.tail (by omega)
  refine bB F h f g Zl yU 9 [] [] [] 2 (.bool true) (λM=>M) 0 74 24 [] λw B G U=>?_;rw[show aF 4 a b c d e=true by simp[aF,i,p,Z,q4,q5]]at K;exact K w B.sat.tail (by omega)
 have w:(k==4)=false:=by simp_all
 by_cases k5:k=5
 .subst k5;refine cJ func28 hS 81 λJ a0 q hn f g m Y P=>aq F h f m Y 49 [0,0,0,2] [1,1,1,1,3] [] [(68,i6 a),(1,ptr q)] (λM=>bR (q) [i6 5,i6 a,i6 b,i6 c,i6 d,i6 e]::(M)) 1 49 48 [] λa1 w1 H z N T o9=>bu F f z H 69 42 #[i6 a,i6 1,i6 9] λyS o=>mF F h a 1 9 H.sat (by omega) λw2 h2 yP=>o _ _ _ h2 λa2 B2 C l tM=>?_;cases i:eB 1 a 9<;>rw[i]at C
  .refine bB F h f g l C 13 [] [1,1,1] [] 2 (.bool false) (λM=>M) 0 63 48 [] λL r u x=>?_;rw[show aF 5 a b c d e=false by simp[aF,i]]at K;exact K L r.sat.tail (by omega)
  refine aq F h f l C 3 [0,0,2,1] [3,3] [] [(72,i6 b),(70,.bool true)] (λM=>M) 0 53 48 [] λa3 L r y u x mH=>bu F f y r 73 42 #[i6 b,i6 0,i6 1000] λDl n=>mF F h b 0 1000 r.sat (by omega) λw4 h4 FO=>n _ _ _ h4 λa4 B4 A j Bj=>?_;cases p:eB 0 b 1000<;>rw[p]at A
  .refine bB F h f g j A 9 [] [] [] 2 (.bool false) (λM=>M) 0 63 48 [] λI s t v=>?_;rw[show aF 5 a b c d e=false by simp[aF,i,p]]at K;exact K I s.sat.tail (by omega)
  refine bB F h f g j A 9 [] [] [] 2 (.bool true) (λM=>M) 0 63 48 [] λI s t v=>?_;rw[show aF 5 a b c d e=true by simp[aF,i,p]]at K;exact K I s.sat.tail (by omega)
 have j:(k==5)=false:=by simp;omega
 have j:(k==6)=false:=by simp;omega
 refine cJ func28 hS 81 λJ a0 q hn f g m Y P=>oH F h f g m Y 59 [0,0,0,1] [0,0,0,0,0,0] [] 2 (.bool false) (λM=>bR (q) [i6 k,i6 a,i6 b,i6 c,i6 d,i6 e]::(M)) 1 59 64 [] [(k==6,false),(k==5,false),(k==4,false),(k==3,false),(k==2,false),(k==1,false)] [] [] λw1 H N T=>?_;have e:aF k a b c d e=false:=by simp only[aF,af k1,af k2,af k3,af k4,af k5,af (show¬k=6 by omega)]
 rw[e]at K;exact K w1 H.sat.tail (by omega)
theorem ER(F:aB prog Q (DX E) O)(d:HB B E){J:aC}(b:J.kind=.normal)(c:J.fn=29){S:aC}{R:cO}{M:aW}{P:ay}{X:eP}{n Y l:Nat}{T:oF}(U:n<=12)(r:0<n->∃a,X=some a){B1:Nat}(A:B<=B1):
 ∀(m i:Nat)(s:Act)(w:aj)(t:Nat),i+m=n->s.defers=[]->B1<=t->w.heap.size=t->St E t 45 [(4,i6 i),(1,ptr l)] (bR l [P,.slice X n Y]::fR (X.getD ⟨0,0,none⟩) 3 (λj=>[i6 (T j 0),i6 (T j 1),i6 (T j 2)]) n false::M) 0 s w->
   (∀D,Sat E D M->w.heap.size<=D.heap.size->O (G (S.finish (.bool (lQ T m i))) R) D)->O (G (J.at s (pc prog 29 33 [false] [])) (S::R)) w
 |0,i,s,w,t,V,h,C,y,H,K=>by
  have W:decide ((i:Int)<(n:Int))=false:=by simp;omega
  refine oH F d b c h H 15 [0,0,1,1] [0] [] 2 (.bool true) (λM=>M) 0 48 4 [] [(decide ((↑i:Int)<(↑n:Int)),false)] [] [] λI v x z=>K I v.sat.tail.tail (by omega)
 |m+1,i,s,w,t,V,h,C,y,H,K=>by
  have W:decide ((i:Int)<(n:Int))=true:=by simp;omega
  obtain⟨u,rfl⟩:=r (by omega);refine aX F d b h H 21 [0,0,1,1,0,0,1,1,1,i,0,101] [2,2] [] [(30,i6 (T i 0)),(4,i6 i),(1,ptr l)] (λM=>M) 0 54 6 [] [(decide ((↑i:Int)<(↑n:Int)),true)] [((↑i:Int),n)] [(1,(i,n))] λa I v a x z h=>bu F b a v 31 42 #[i6 (T i 0),i6 1,i6 4] λa a=>mF F d (T i 0) 1 4 v.sat (by omega) λh j h=>a _ _ _ j λa a j a h=>aX F d b a j 10 [0,0,1,1,1,i,2,101] [2] [] [(37,i6 (T i 2)),(5,.bool (eB 1 (T i 0) 4)),(4,i6 i),(1,ptr l)] (λM=>M) 0 65 6 [] [] [((↑i:Int),n)] [(1,(i,n))] λa a h a j j j=>bu F b a h 38 42 #[i6 (T i 2),i6 0,i6 1000] λa a=>mF F d (T i 2) 0 1000 h.sat (by omega) λh j h=>a _ _ _ j λa Z k g a=>?_;have e:lQ T (m+1) i=(eB 1 (T i 0) 4&&eB 0 (T i 2) 1000&&lQ T m (i+1)):=rfl;rw[e]at K;cases N:eB 1 (T i 0) 4 with
  |false=>
   rw[N]at k K;refine bB F d b c g k 16 [] [3,3,3] [] 2 (.bool false) (λM=>M) 0 82 14 [] λo f p q=>K o f.sat.tail.tail (by omega)
  |true=>
   rw[N]at k K;cases L:eB 0 (T i 2) 1000 with
   |false=>
    rw[L]at k K;refine bB F d b c g k 16 [] [1,1,3] [] 2 (.bool false) (λM=>M) 0 82 14 [] λo f p q=>K o f.sat.tail.tail (by omega)
   |true=>
    rw[L]at k K;have e:IntKind.wrap .i64 ((i:Int)+1)=((i+1:Nat):Int):=by rw[aA (by omega) (by omega)];rfl
    refine aq F d b g k 20 [] [1,1,1] [] [(4,i6 (IntKind.wrap .i64 ((↑i:Int)+1))),(43,.bool false),(42,.bool true),(1,ptr l)] (λM=>M) 0 86 10 [] λh o f a p q g=>?_;rw[e]at f;replace f:=f.dB [(4,i6 ((i+1:Nat):Int)),(1,ptr l)] rfl;rw[show pc prog 29 86 (Bo 10) []=pc prog 29 33 [false] [] by kernel_rfl];exact ER F d b c U r A m (i+1) h o Z (by omega) a (by omega) (by omega) f λD a b=>K D a (by omega)
theorem Mp(F:aB prog Q (DX E) O)(f:HB B E)(g:0<n->∃a,X=some a/\Has M (fR a 3 (λj=>[i6 (T j 0),i6 (T j 1),i6 (T j 2)]) n false))(c:Sat E w M)(a:B<=w.heap.size)(K:∀D,Sat E D M->w.heap.size<=D.heap.size->O (G (S.finish (.bool (iF st n T))) R) D):O (G (Frame.enter prog 29 #[.agg #[i6 st,.slice X n Y]] .normal) (S::R)) w:=by
 have b:Sat E w (fR (X.getD ⟨0,0,none⟩) 3 (λj=>[i6 (T j 0),i6 (T j 1),i6 (T j 2)]) n false::M):=by
  by_cases z:0<n
  .obtain⟨u,rfl,h⟩:=g z;exact c.get h
  .exact c.ff (by simp_all) rfl
 clear c;have c:=b;clear b;refine cJ func29 c 45 λJ a j a a c b h g=>aq F f a b h 9 [0,0,0,1] [] [] [(8,i6 st),(1,ptr j)] (λM=>bR (j) [i6 st,.slice X n Y]::(M)) 1 9 1 [] λb b g b h h h=>bu F a b g 9 42 #[i6 st,i6 0,i6 1000] λb b=>mF F f st 0 1000 g.sat (by omega) λg h g=>b _ _ _ h λb o k b g=>?_;by_cases g:eB 0 st 1000=true
 .rw[g]at k;by_cases p:n<=12
  .have m:decide ((n:Int)>12)=false:=by simp;omega
   refine aX F f a b k 23 [0,0,1,1] [1,1,1,1,0] [] [(4,i6 0),(1,ptr j)] (λM=>M) 0 33 2 [] [(decide ((↑n:Int)>12),false)] [] [] λr g d l h i q=>?_;have e:iF st n T=lQ T n 0:=by unfold iF;simp_all
   rw[e]at K;replace d:=d.dB [(4,i6 ((0:Nat):Int)),(1,ptr j)] rfl;exact ER F f a c p (λz=>by grind) (B1:=o) (by omega) n 0 r g o (bK _) l (az _) (by omega) d λD j l=>K D j (by omega)
  .have m:decide ((n:Int)>12)=true:=by simp;omega
   refine oH F f a c b k 19 [0,0,1,1] [1,1,1,1,2] [] 2 (.bool false) (λM=>M) 0 29 3 [] [(decide ((↑n:Int)>12),true)] [] [] λg d h i=>?_;have e:iF st n T=false:=by unfold iF;simp_all
   rw[e]at K;exact K g d.sat.tail.tail (by omega)
 .have j:eB 0 st 1000=false:=by simp_all
  rw[j]at k;refine bB F f a c b k 19 [] [3,3,3,3,3] [] 2 (.bool false) (λM=>M) 0 29 3 [] λg d h i=>?_;have e:iF st n T=false:=by unfold iF;simp[j]
  rw[e]at K;exact K g d.sat.tail.tail (by omega)
abbrev oG(L:oF)(i:Nat):List Value:=[i6 (L i 0),i6 (L i 1),i6 (L i 2),i6 (L i 3),i6 (L i 4),i6 (L i 5)]
theorem ET(F:aB prog Q (DX E) O)(k:HB B E){J:aC}(b:J.kind=.normal)(h:J.fn=17){S:aC}{R:cO}{M:aW}{sa:eP}{n cap:Nat}{g:Nat->Cl}(Z:n<=9)(l:0<n->∃a,sa=some a)(X:∀j,j<n->0<(g j).nt->∃a,(g j).ta=some a/\Has M (fR a 3 (λi=>[i6 ((g j).T i 0),i6 ((g j).T i 1),i6 ((g j).T i 2)]) (g j).nt false)):
 ∀(m i:Nat)(p:Act)(w:aj)(t:Nat),i+m=n->p.defers=[]->B<=t->w.heap.size=t->St E t 65 [(9,i6 i),(1,.slice sa n cap)] (fR (sa.getD ⟨0,0,none⟩) 2 (λj=>[i6 (g j).st,.slice (g j).ta (g j).nt (g j).tc]) n false::M) 0 p w->
   (∀D,Sat E D M->w.heap.size<=D.heap.size->O (G (S.finish (.tuple #[i6 (if fY g m i<n then 4 else 0),i6 (if fY g m i<n then fY g m i else 0)])) R) D)->O (G (J.at p (pc prog 17 51 [false,false,false] [])) (S::R)) w
 |0,i,p,w,t,hi,f,N,C,U,K=>by
  have g1:decide ((i:Int)<(n:Int))=false:=by simp;omega
  refine aX F k b f U 15 [] [0] [] [(5,i6 0),(4,i6 0)] (λM=>M) 0 66 16 [] [(decide ((↑i:Int)<(↑n:Int)),false)] [] [] λa1 W s d A I T=>cC F s b h d [] (.tuple #[i6 0,i6 0]) ?_;have e:fY g 0 i=i:=rfl;rw[e,af (show¬i<n by omega),af (show¬i<n by omega)]at K;exact K W s.sat.tail (by omega)
 |m+1,i,p,w,t,hi,f,N,C,U,K=>by
  have g1:decide ((i:Int)<(n:Int))=true:=by simp;omega
  obtain⟨u,rfl⟩:=l (by omega);refine aX F k b f U 18 [0,i,0,102] [2,2] [] [(60,.agg #[i6 (g i).st,.slice (g i).ta (g i).nt (g i).tc]),(9,i6 i),(1,.slice (some u) n cap)] (λM=>M) 0 69 24 [] [(decide ((↑i:Int)<(↑n:Int)),true)] [((↑i:Int),n)] [(2,(i,n))] λa1 W s d A I T=>bu F b d s 61 29 #[.agg #[i6 (g i).st,.slice (g i).ta (g i).nt (g i).tc]] λd d=>?_;have f:=X i (by omega);refine Mp F k (λz=>by obtain⟨a,v,V⟩:=f z;exact⟨a,v,V.cons⟩) s.sat (by omega) λa f a=>d _ _ _ f λa B3 r o a=>?_;have e:fY g (m+1) i=if(g i).YM=false then i else fY g m (i+1):=rfl;have a:iF (g i).st (g i).nt (g i).T=(g i).YM:=rfl;rw[a]at r;rw[e]at K;cases L:(g i).YM with
  |false=>
   rw[L]at r;rw[ah L,ah (show i<n by omega),ah (show i<n by omega)]at K;refine aq F k b o r 14 [] [3] [] [(5,i6 i),(4,i6 4)] (λM=>M) 0 84 56 [] λY x q c y H P=>cC F q b h c [] (.tuple #[i6 4,i6 i]) ?_;exact K x q.sat.tail (by omega)
  |true=>
   rw[L]at r;rw[af (show¬(g i).YM=false by simp_all)]at K;have a:IntKind.wrap .i64 ((i:Int)+1)=((i+1:Nat):Int):=by rw[aA (by omega) (by omega)];rfl
   refine aq F k b o r 16 [] [1] [] [(9,i6 (IntKind.wrap .i64 ((↑i:Int)+1))),(1,.slice (some u) n cap)] (λM=>M) 0 86 40 [] λY x q c y H P=>?_;rw[a]at q;rw[show pc prog 17 86 (Bo 40) []=pc prog 17 51 [false,false,false] [] by kernel_rfl];exact ET F k b h Z l X m (i+1) Y x B3 (by omega) c (by omega) (by omega) q λD v V=>K D v (by omega)
theorem zD(F:aB prog Q (DX E) O)(j:HB B E){J:aC}(b:J.kind=.normal)(h:J.fn=17){S:aC}{R:cO}{M:aW}{sL sa:eP}{n cA f cap:Nat}{L:oF}(hn:n<=6)(q:0<n->∃a,sL=some a)(Z:∀i,i<n->L i 0<=5):
 ∀(m i:Nat)(r:Int)(P:Act)(w:aj)(A:Nat),i+m=n->0<=r->r<=2->P.defers=[]->B<=A->w.heap.size=A->St E A 65 [(7,i6 i),(6,i6 r),(0,.slice sL n cA),(1,.slice sa f cap)] (fR (sL.getD ⟨0,0,none⟩) 6 (oG L) n false::M) 0 P w->
   (∀D,cZ L m i r<n->Sat E D M->w.heap.size<=D.heap.size->O (G (S.finish (.tuple #[i6 2,i6 (cZ L m i r)])) R) D)->
   (∀x D k,¬cZ L m i r<n->x.defers=[]->B<=k->w.heap.size<=k->D.heap.size=k->St E k 65 [(50,.bool (decide ((f:Int)>9))),(1,.slice sa f cap)] M 0 x D->O (G (J.at x (pc prog 17 42 [false,false] [])) (S::R)) D)->O (G (J.at P (pc prog 17 25 [false] [])) (S::R)) w
 |0,i,r,P,w,A,hi,X,hr,t,I,U,S0,K,K2=>by
  have g1:decide ((i:Int)<(n:Int))=false:=by simp;omega
  refine aX F j b t S0 17 [] [0] [] [(50,.bool (decide ((↑f:Int)>9))),(1,.slice sa f cap)] (λM=>M) 0 42 4 [] [(decide ((↑i:Int)<(↑n:Int)),false)] [] [] λa1 w1 z s T V o9=>K2 a1 w1 A (by show¬i<n;omega) s I (by omega) (by omega) ⟨z.env,z.sat.tail,z.sz⟩
 |m+1,i,r,P,w,A,hi,X,hr,t,I,U,S0,K,K2=>by
  have g1:decide ((i:Int)<(n:Int))=true:=by simp;omega
  obtain⟨u,rfl⟩:=q (by omega);refine aX F j b t S0 18 [0,i,0,106] [2,2] [] [(23,.agg #[i6 (L i 0),i6 (L i 1),i6 (L i 2),i6 (L i 3),i6 (L i 4),i6 (L i 5)]),(7,i6 i),(6,i6 r),(0,.slice (some u) n cA),(1,.slice sa f cap)] (λM=>M) 0 43 6 [] [(decide ((↑i:Int)<(↑n:Int)),true)] [((↑i:Int),n)] [(6,(i,n))] λa1 w1 z s T V o9=>bu F b s z 24 28 #[.agg #[i6 (L i 0),i6 (L i 1),i6 (L i 2),i6 (L i 3),i6 (L i 4),i6 (L i 5)]] λa a=>Mn F j (L i 0) (L i 1) (L i 2) (L i 3) (L i 4) (L i 5) (Z i (by omega)) z.sat (by omega) λs s t=>a _ _ _ s λa B3 y g a=>?_;have e:cZ L (m+1) i r=if 2<(if L i 0=1 then r+1 else r)\/aF (L i 0) (L i 1) (L i 2) (L i 3) (L i 4) (L i 5)=false then i else cZ L m (i+1) (if L i 0=1 then r+1 else r):=rfl;rw[e]at K K2;have hw:IntKind.wrap .i64 ((i:Int)+1)=((i+1:Nat):Int):=by rw[aA (by omega) (by omega)];rfl
  cases Y:aF (L i 0) (L i 1) (L i 2) (L i 3) (L i 4) (L i 5)with
  |false=>
   rw[Y]at y;rw[ah (.inr Y)]at K;refine aq F j b g y 27 [] [3,3,3,3,3,3,3,3,3] [] [(5,i6 i),(4,i6 2)] (λM=>M) 0 71 14 [] λN l d c o p v=>cC F d b h c [] (.tuple #[i6 2,i6 i]) ?_;exact K l (by omega) d.sat.tail (by omega)
  |true=>
   rw[Y]at y;by_cases H:L i 0=1
   .have C:(L i 0==1)=true:=by simp_all
    by_cases W:r=2
    .subst W;rw[ah (.inl (by omega))]at K;refine aX F j b g y 27 [0,i,0,101] [1,1,1,2,1,1,1,1,2,3,1,3] [] [(5,i6 i),(4,i6 2)] (λM=>M) 0 71 14 [] [(L i 0==1,true)] [((↑i:Int),n)] [(1,(i,n))] λN l d c o p v=>cC F d b h c [] (.tuple #[i6 2,i6 i]) ?_;exact K l (by omega) d.sat.tail (by omega)
    .have a:(r==2)=false:=by simp_all
     have a:IntKind.wrap .i64 (r+1)=r+1:=aA (by omega) (by omega);have s:¬(2<(if L i 0=1 then r+1 else r)\/aF (L i 0) (L i 1) (L i 2) (L i 3) (L i 4) (L i 5)=false):=by
      grind
     rw[af s,ah H]at K K2;refine aX F j b g y 44 [0,i,0,101,0,i,0,101] [1,1,1,2,1,1,1,1,2,3,1,0,2,2] [] [(7,i6 (IntKind.wrap .i64 ((↑i:Int)+1))),(6,i6 (IntKind.wrap .i64 (r+1))),(37,.bool (r==2)),(36,.bool (r==2)),(34,.bool true),(35,i6 r),(33,.bool (L i 0==1)),(32,i6 (L i 0)),(31,.pointer (some (Addr.add (Addr.add u (Int.toNat (↑i:Int)*6)) 0))),(30,.pointer (some (Addr.add u (Int.toNat (↑i:Int)*6)))),(29,i6 i),(28,.slice (some u) n cA),(0,.slice (some u) n cA),(1,.slice sa f cap)] (λM=>M) 0 88 26 [] [(L i 0==1,true),(r==2,false),(L i 0==1,true)] [((↑i:Int),n),((↑i:Int),n)] [(2,(i,n))] λN l d c o p v=>?_;rw[hw,a]at d;replace d:=d.dB [(7,i6 ((i+1:Nat):Int)),(6,i6 (r+1)),(0,.slice (some u) n cA),(1,.slice sa f cap)] rfl;rw[show pc prog 17 88 (Bo 26) []=pc prog 17 25 [false] [] by kernel_rfl];exact zD F j b h hn q Z m (i+1) (r+1) N l B3 (by omega) (by omega) (by omega) c (by omega) (by omega) d (λD e a t=>K D e a (by omega)) (λx D k e a t A z w=>K2 x D k e a t (by omega) z w)
   .have C:(L i 0==1)=false:=by simp_all
    have s:¬(2<(if L i 0=1 then r+1 else r)\/aF (L i 0) (L i 1) (L i 2) (L i 3) (L i 4) (L i 5)=false):=by
     simp_all
    rw[af s,af H]at K K2;refine aX F j b g y 40 [0,i,0,101,0,i,0,101] [1,1,1,2,1,1,1,1,0,1,1,1,2,0] [] [(7,i6 (IntKind.wrap .i64 ((↑i:Int)+1))),(37,.bool false),(36,.tuple #[]),(34,.bool false),(35,.tuple #[]),(33,.bool (L i 0==1)),(32,i6 (L i 0)),(31,.pointer (some (Addr.add (Addr.add u (Int.toNat (↑i:Int)*6)) 0))),(30,.pointer (some (Addr.add u (Int.toNat (↑i:Int)*6)))),(29,i6 i),(28,.slice (some u) n cA),(6,i6 r),(0,.slice (some u) n cA),(1,.slice sa f cap)] (λM=>M) 0 84 18 [] [(L i 0==1,false),(L i 0==1,false)] [((↑i:Int),n),((↑i:Int),n)] [(2,(i,n))] λN l d c o p v=>?_;rw[hw]at d;replace d:=d.dB [(7,i6 ((i+1:Nat):Int)),(6,i6 r),(0,.slice (some u) n cA),(1,.slice sa f cap)] rfl;rw[show pc prog 17 84 (Bo 18) []=pc prog 17 25 [false] [] by kernel_rfl];exact zD F j b h hn q Z m (i+1) r N l B3 (by omega) (by omega) (by omega) c (by omega) (by omega) d (λD e a t=>K D e a (by omega)) (λx D k e a t A z w=>K2 x D k e a t (by omega) z w)
theorem ES(F:aB prog Q (DX E) O)(o:HB B E)(X:∀i,i<n->L i 0<=5)(U:0<n->∃a,sL=some a/\Has M (fR a 6 (oG L) n false))(W:0<m->∃a,sa=some a/\Has M (fR a 2 (λj=>[i6 (g j).st,.slice (g j).ta (g j).nt (g j).tc]) m false))(V:∀j,j<m->0<(g j).nt->∃a,(g j).ta=some a/\Has M (fR a 3 (λi=>[i6 ((g j).T i 0),i6 ((g j).T i 1),i6 ((g j).T i 2)]) (g j).nt false))(l:Sat E w M)(a:B<=w.heap.size)(K:∀D,Sat E D M->w.heap.size<=D.heap.size->O (G (S.finish (.tuple #[i6 (jG n L m g).1,i6 (jG n L m g).2])) R) D):O (G (Frame.enter prog 17 #[.slice sL n cA,.slice sa m cap] .normal) (S::R)) w:=by
 by_cases a:6<n
 .have a:decide ((n:Int)>6)=true:=by simp;omega
  refine cJ func17 l 65 λJ Y P T b c h H x=>aX F o b h H 18 [] [2] [] [(5,i6 0),(4,i6 1)] (λM=>M) 0 18 3 [] [(decide ((↑n:Int)>6),true)] [] [] λN t p f v y C=>cC F p b c f [] (.tuple #[i6 1,i6 0]) ?_;have e:jG n L m g=(1,0):=by unfold jG;simp_all
  rw[e]at K;exact K t p.sat (by omega)
 .have a:decide ((n:Int)>6)=false:=by simp;omega
  have q:Sat E w (fR (sL.getD ⟨0,0,none⟩) 6 (oG L) n false::M):=by
   by_cases z:0<n
   .obtain⟨u,rfl,A⟩:=U z;exact l.get A
   .exact l.ff (by simp_all) rfl
  clear l;have l:=q;clear q;refine cJ func17 l 65 λJ Y P T b c h H x=>aX F o b h H 25 [] [0] [] [(7,i6 0),(6,i6 0),(0,.slice sL n cA),(1,.slice sa m cap)] (λM=>M) 0 25 2 [] [(decide ((↑n:Int)>6),false)] [] [] λN t p f v y C=>?_;replace p:=p.dB [(7,i6 ((0:Nat):Int)),(6,i6 0),(0,.slice sL n cA),(1,.slice sa m cap)] rfl;refine zD F o b c (by omega) (λz=>by grind) X n 0 0 N t P (bK _) (by omega) (by omega) f (by omega) (by omega) p (λf a s h=>?_) (λi f Z a a s h h q=>?_)
  .have e:jG n L m g=(2,((cZ L n 0 0:Nat):Int)):=by unfold jG;simp_all
   rw[e]at K;exact K f s (by omega)
  .by_cases f:9<m
   .have i:decide ((m:Int)>9)=true:=by simp;omega
    refine aX F o b a q 6 [] [2] [] [(5,i6 0),(4,i6 3)] (λM=>M) 0 48 12 [] [(decide ((↑m:Int)>9),true)] [] [] λI r k d f h l=>cC F k b c d [] (.tuple #[i6 3,i6 0]) ?_;have e:jG n L m g=(3,0):=by unfold jG;grind
    rw[e]at K;exact K r k.sat (by omega)
   .have i:decide ((m:Int)>9)=false:=by simp;omega
    refine aX F o b a q 9 [] [0] [] [(9,i6 0),(1,.slice sa m cap)] (λM=>M) 0 51 8 [] [(decide ((↑m:Int)>9),false)] [] [] λI r k d f h l=>?_;have s:Sat E r (fR (sa.getD ⟨0,0,none⟩) 2 (λj=>[i6 (g j).st,.slice (g j).ta (g j).nt (g j).tc]) m false::M):=by
     by_cases z:0<m
     .obtain⟨u,rfl,A⟩:=W z;exact k.sat.get A
     .exact k.sat.ff (by simp_all) rfl
    refine ET F o b c (by omega) (λz=>by grind) V m 0 I r Z (bK _) d (by omega) (by omega) ⟨k.env,s,k.sz⟩ λD b a=>?_;by_cases a:fY g m 0<m
    .have e:jG n L m g=(4,((fY g m 0:Nat):Int)):=by unfold jG;grind
     rw[e]at K;rw[ah a,ah a];exact K D b (by omega)
    .have e:jG n L m g=(0,0):=by unfold jG;grind
     rw[e]at K;rw[af a,af a];exact K D b (by omega)
theorem iI(F:aB prog Q (DX E) O)(o:HB B E)(n lo d:Int)(m:Sat E w M)(a:B<=w.heap.size)(K:∀D,Sat E D M->w.heap.size<=D.heap.size->O (G (S.finish (.bool (eB lo n d))) R) D):O (G (Frame.enter prog 57 #[i6 lo,i6 n,i6 d] .normal) (S::R)) w:=by
 by_cases p:lo<=n
 .have j:decide (lo<=n)=true:=by simp_all
  refine cJ func57 m 15 λJ r s q b c a l h=>oH F o b c a l 16 [] [2,3,3] [] 6 (.bool (decide (n<=d))) (λM=>M) 0 16 1 [] [(decide (lo<=n),true)] [] [] λf k g i=>?_;have e:eB lo n d=decide (n<=d):=by unfold eB;simp[p]
  rw[e]at K;exact K f k.sat (by omega)
 .have j:decide (lo<=n)=false:=by simp_all
  refine cJ func57 m 15 λJ r s q b c a l h=>oH F o b c a l 16 [] [0,1,1] [] 6 (.bool false) (λM=>M) 0 16 1 [] [(decide (lo<=n),false)] [] [] λf k g i=>?_;have e:eB lo n d=false:=by unfold eB;simp[p]
  rw[e]at K;exact K f k.sat (by omega)
theorem F8(F:aB prog Q (DX E) O)(h:HB B E)(k a b c d e:Int)(hk:k≠6)(hS:Sat E w M)(yQ:B<=w.heap.size)(K:∀D,Sat E D M->w.heap.size<=D.heap.size->O (G (S.finish (.bool (aF k a b c d e))) R) D):O (G (Frame.enter prog 40 #[.agg #[i6 k,i6 a,i6 b,i6 c,i6 d,i6 e]] .normal) (S::R)) w:=by
 by_cases k1:k=1
 .subst k1;refine cJ func40 hS 79 λJ a0 q hn f g m Y P=>aq F h f m Y 22 [0,0,0,2] [3] [] [(8,i6 a),(1,ptr q)] (λM=>bR (q) [i6 1,i6 a,i6 b,i6 c,i6 d,i6 e]::(M)) 1 22 3 [] λa1 w1 H z N T o9=>bu F f z H 9 57 #[i6 1,i6 a,i6 9] λyS o=>iI F h a 1 9 H.sat (by omega) λw2 h2 yP=>o _ _ _ h2 λa2 B2 C l tM=>?_;cases i:eB 1 a 9<;>rw[i]at C
  .refine bB F h f g l C 17 [] [1,1,1,1,1,1,1,1,1] [] 2 (.bool false) (λM=>M) 0 40 3 [] λL r u x=>?_;rw[show aF 1 a b c d e=false by simp[aF,i]]at K;exact K L r.sat.tail (by omega)
  refine aq F h f l C 3 [0,0,2,1] [3,3] [] [(12,i6 b),(10,.bool true),(1,ptr q)] (λM=>M) 0 26 3 [] λa3 L r y u x mH=>bu F f y r 13 57 #[i6 0,i6 b,i6 1000] λDl n=>iI F h b 0 1000 r.sat (by omega) λw4 h4 FO=>n _ _ _ h4 λa4 B4 A j Bj=>?_;cases p:eB 0 b 1000<;>rw[p]at A
  .refine bB F h f g j A 13 [] [1,1,1,1,1,1] [] 2 (.bool false) (λM=>M) 0 40 3 [] λI s t v=>?_;rw[show aF 1 a b c d e=false by simp[aF,i,p]]at K;exact K I s.sat.tail (by omega)
  refine aq F h f j A 4 [0,0,3,1] [3,3] [] [(17,i6 c),(15,.bool true),(1,ptr q)] (λM=>M) 0 31 3 [] λa5 I s Yv t v qO=>bu F f Yv s 18 57 #[i6 1,i6 c,i6 9] λJC X=>iI F h c 1 9 s.sat (by omega) λw6 h6 Hf=>X _ _ _ h6 λa6 B6 S6 V YG=>?_;cases Z:eB 1 c 9<;>rw[Z]at S6
  .refine bB F h f g V S6 8 [] [1,1,1] [] 2 (.bool false) (λM=>M) 0 40 3 [] λw7 S7 OD YQ=>?_;rw[show aF 1 a b c d e=false by simp[aF,i,p,Z]]at K;exact K w7 S7.sat.tail (by omega)
  refine aq F h f V S6 4 [0,0,4,1] [3,3] [] [(22,i6 d),(20,.bool true)] (λM=>M) 0 36 3 [] λa7 w7 S7 CI OD YQ DJ=>bu F f CI S7 23 57 #[i6 0,i6 d,i6 10000] λRU W=>iI F h d 0 10000 S7.sat (by omega) λw8 h8 IV=>W _ _ _ h8 λa8 B8 S8 U FN=>?_;cases q4:eB 0 d 10000<;>rw[q4]at S8
  .refine bB F h f g U S8 3 [] [] [] 2 (.bool false) (λM=>M) 0 40 3 [] λw9 S9 Tl He=>?_;rw[show aF 1 a b c d e=false by simp[aF,i,p,Z,q4]]at K;exact K w9 S9.sat.tail (by omega)
  refine bB F h f g U S8 3 [] [] [] 2 (.bool true) (λM=>M) 0 40 3 [] λw9 S9 Tl He=>?_;rw[show aF 1 a b c d e=true by simp[aF,i,p,Z,q4]]at K;exact K w9 S9.sat.tail (by omega)
 have w:(k==1)=false:=by simp_all
 by_cases k2:k=2
 .subst k2;refine cJ func40 hS 79 λJ a0 q hn f g m Y P=>bB F h f g m Y 28 [0,0,0,1] [1,3] [] 2 (.bool true) (λM=>bR (q) [i6 2,i6 a,i6 b,i6 c,i6 d,i6 e]::(M)) 1 28 6 [] λw1 H N T=>K w1 H.sat.tail (by omega)
 have w:(k==2)=false:=by simp_all
 by_cases k3:k=3
 .subst k3;refine cJ func40 hS 79 λJ a0 q hn f g m Y P=>aq F h f m Y 34 [0,0,0,2] [1,1,3] [] [(30,i6 a),(1,ptr q)] (λM=>bR (q) [i6 3,i6 a,i6 b,i6 c,i6 d,i6 e]::(M)) 1 34 12 [] λa1 w1 H z N T o9=>bu F f z H 31 57 #[i6 1,i6 a,i6 1000] λyS o=>iI F h a 1 1000 H.sat (by omega) λw2 h2 yP=>o _ _ _ h2 λa2 B2 C l tM=>?_;cases i:eB 1 a 1000<;>rw[i]at C
  .refine bB F h f g l C 7 [] [1,1,1] [] 2 (.bool false) (λM=>M) 0 42 12 [] λL r u x=>?_;rw[show aF 3 a b c d e=false by simp[aF,i]]at K;exact K L r.sat.tail (by omega)
  refine aq F h f l C 3 [0,0,2,1] [3,3] [] [(34,i6 b),(32,.bool true)] (λM=>M) 0 38 12 [] λa3 L r y u x mH=>bu F f y r 35 57 #[i6 1,i6 b,i6 20] λDl n=>iI F h b 1 20 r.sat (by omega) λw4 h4 FO=>n _ _ _ h4 λa4 B4 A j Bj=>?_;cases p:eB 1 b 20<;>rw[p]at A
  .refine bB F h f g j A 3 [] [] [] 2 (.bool false) (λM=>M) 0 42 12 [] λI s t v=>?_;rw[show aF 3 a b c d e=false by simp[aF,i,p]]at K;exact K I s.sat.tail (by omega)
  refine bB F h f g j A 3 [] [] [] 2 (.bool true) (λM=>M) 0 42 12 [] λI s t v=>?_;rw[show aF 3 a b c d e=true by simp[aF,i,p]]at K;exact K I s.sat.tail (by omega)
 have w:(k==3)=false:=by simp_all
 by_cases k4:k=4
 .subst k4;refine cJ func40 hS 79 λJ a0 q hn f g m Y P=>aq F h f m Y 40 [0,0,0,2] [1,1,1,3] [] [(40,i6 a),(1,ptr q)] (λM=>bR (q) [i6 4,i6 a,i6 b,i6 c,i6 d,i6 e]::(M)) 1 40 24 [] λa1 w1 H z N T o9=>bu F f z H 41 57 #[i6 1,i6 a,i6 20] λyS o=>iI F h a 1 20 H.sat (by omega) λw2 h2 yP=>o _ _ _ h2 λa2 B2 C l tM=>?_;cases i:eB 1 a 20<;>rw[i]at C
  .refine bB F h f g l C 24 [] [1,1,1,1,1,1,1,1,1,1,1,1,1,1] [] 2 (.bool false) (λM=>M) 0 65 24 [] λL r u x=>?_;rw[show aF 4 a b c d e=false by simp[aF,i]]at K;exact K L r.sat.tail (by omega)
  refine aq F h f l C 5 [0,0,2,1,0,0,1,1] [3,3,3,3] [] [(46,i6 a),(42,.bool true),(44,i6 b),(1,ptr q)] (λM=>M) 0 46 24 [] λa3 L r y u x mH=>bu F f y r 47 57 #[i6 1,i6 b,i6 a] λDl n=>iI F h b 1 a r.sat (by omega) λw4 h4 FO=>n _ _ _ h4 λa4 B4 A j Bj=>?_;cases p:eB 1 b a<;>rw[p]at A
  .refine bB F h f g j A 18 [] [1,1,1,1,1,1,1,1,1] [] 2 (.bool false) (λM=>M) 0 65 24 [] λI s t v=>?_;rw[show aF 4 a b c d e=false by simp[aF,i,p]]at K;exact K I s.sat.tail (by omega)
  refine aq F h f j A 4 [0,0,3,1] [3,3] [] [(51,i6 c),(49,.bool true),(1,ptr q)] (λM=>M) 0 51 24 [] λa5 I s Yv t v qO=>bu F f Yv s 52 57 #[i6 1,i6 c,i6 100] λJC X=>iI F h c 1 100 s.sat (by omega) λw6 h6 Hf=>X _ _ _ h6 λa6 B6 S6 V YG=>?_;cases Z:eB 1 c 100<;>rw[Z]at S6
  .refine bB F h f g V S6 13 [] [1,1,1,1,1,1] [] 2 (.bool false) (λM=>M) 0 65 24 [] λw7 S7 OD YQ=>?_;rw[show aF 4 a b c d e=false by simp[aF,i,p,Z]]at K;exact K w7 S7.sat.tail (by omega)
  refine aq F h f V S6 4 [0,0,4,1] [3,3] [] [(56,i6 d),(54,.bool true),(1,ptr q)] (λM=>M) 0 56 24 [] λa7 w7 S7 CI OD YQ DJ=>bu F f CI S7 57 57 #[i6 0,i6 d,i6 1000] λRU W=>iI F h d 0 1000 S7.sat (by omega) λw8 h8 IV=>W _ _ _ h8 λa8 B8 S8 U FN=>?_;cases q4:eB 0 d 1000<;>rw[q4]at S8
  .refine bB F h f g U S8 8 [] [1,1,1] [] 2 (.bool false) (λM=>M) 0 65 24 [] λw9 S9 Tl He=>?_;rw[show aF 4 a b c d e=false by simp[aF,i,p,Z,q4]]at K;exact K w9 S9.sat.tail (by omega)
  refine aq F h f U S8 4 [0,0,5,1] [3,3] [] [(61,i6 e),(59,.bool true)] (λM=>M) 0 61 24 [] λw w9 S9 w Tl He B=>bu F f w S9 62 57 #[i6 1,i6 e,i6 9] λw w=>iI F h e 1 9 S9.sat (by omega) λB B G=>w _ _ _ B λw w yU Zl w=>?_;cases q5:eB 1 e 9<;>rw[q5]at yU
  .refine bB F h f g Zl yU 3 [] [] [] 2 (.bool false) (λM=>M) 0 65 24 [] λw B G U=>?_;rw[show aF 4 a b c d e=false by simp[aF,i,p,Z,q4,q5]]at K;exact K w B.sat.tail (by omega)
  refine bB F h f g Zl yU 3 [] [] [] 2 (.bool true) (λM=>M) 0 65 24 [] λw B G U=>?_;rw[show aF 4 a b c d e=true by simp[aF,i,p,Z,q4,q5]]at K;exact K w B.sat.tail (by omega)
 have w:(k==4)=false:=by simp_all
 by_cases k5:k=5
 .subst k5;refine cJ func40 hS 79 λJ a0 q hn f g m Y P=>aq F h f m Y 46 [0,0,0,2] [1,1,1,1,3] [] [(67,i6 a),(1,ptr q)] (λM=>bR (q) [i6 5,i6 a,i6 b,i6 c,i6 d,i6 e]::(M)) 1 46 48 [] λa1 w1 H z N T o9=>bu F f z H 68 57 #[i6 1,i6 a,i6 9] λyS o=>iI F h a 1 9 H.sat (by omega) λw2 h2 yP=>o _ _ _ h2 λa2 B2 C l tM=>?_;cases i:eB 1 a 9<;>rw[i]at C
  .refine bB F h f g l C 7 [] [1,1,1] [] 2 (.bool false) (λM=>M) 0 54 48 [] λL r u x=>?_;rw[show aF 5 a b c d e=false by simp[aF,i]]at K;exact K L r.sat.tail (by omega)
  refine aq F h f l C 3 [0,0,2,1] [3,3] [] [(71,i6 b),(69,.bool true)] (λM=>M) 0 50 48 [] λa3 L r y u x mH=>bu F f y r 72 57 #[i6 0,i6 b,i6 1000] λDl n=>iI F h b 0 1000 r.sat (by omega) λw4 h4 FO=>n _ _ _ h4 λa4 B4 A j Bj=>?_;cases p:eB 0 b 1000<;>rw[p]at A
  .refine bB F h f g j A 3 [] [] [] 2 (.bool false) (λM=>M) 0 54 48 [] λI s t v=>?_;rw[show aF 5 a b c d e=false by simp[aF,i,p]]at K;exact K I s.sat.tail (by omega)
  refine bB F h f g j A 3 [] [] [] 2 (.bool true) (λM=>M) 0 54 48 [] λI s t v=>?_;rw[show aF 5 a b c d e=true by simp[aF,i,p]]at K;exact K I s.sat.tail (by omega)
 have j:(k==5)=false:=by simp_all
 have j:(k==6)=false:=by simp_all
 refine cJ func40 hS 79 λJ a0 q hn f g m Y P=>oH F h f g m Y 54 [0,0,0,1] [0,0,0,0,0,0] [] 2 (.bool false) (λM=>bR (q) [i6 k,i6 a,i6 b,i6 c,i6 d,i6 e]::(M)) 1 54 64 [] [(k==6,false),(k==5,false),(k==4,false),(k==3,false),(k==2,false),(k==1,false)] [] [] λw1 H N T=>?_;have e:aF k a b c d e=false:=by simp only[aF,af k1,af k2,af k3,af k4,af k5,af hk]
 rw[e]at K;exact K w1 H.sat.tail (by omega)
theorem Gb(F:aB prog Q (DX E) O)(d:HB B E){J:aC}(b:J.kind=.normal)(c:J.fn=41){S:aC}{R:cO}{M:aW}{X:eP}{n Y:Nat}{T:oF}(L:n<=12)(k:0<n->∃a,X=some a){B1:Nat}(v:B<=B1):
 ∀(m i:Nat)(p:Act)(w:aj)(f:Nat),i+m=n->p.defers=[]->B1<=f->w.heap.size=f->St E f 33 [(18,i6 i),(17,i6 n),(16,.slice X n Y)] (fR (X.getD ⟨0,0,none⟩) 3 (λj=>[i6 (T j 0),i6 (T j 1),i6 (T j 2)]) n false::M) 0 p w->
   (∀D,Sat E D M->w.heap.size<=D.heap.size->O (G (S.finish (.bool (lQ T m i))) R) D)->O (G (J.at p (pc prog 41 31 [false] [])) (S::R)) w
 |0,i,p,w,f,N,h,x,s,A,K=>by
  have P:decide ((i:Int)<(n:Int))=false:=by simp;omega
  refine oH F d b c h A 11 [] [0] [] 2 (.bool true) (λM=>M) 0 42 4 [] [(decide ((↑i:Int)<(↑n:Int)),false)] [] [] λC q r t=>K C q.sat.tail (by omega)
 |m+1,i,p,w,f,N,h,x,s,A,K=>by
  have P:decide ((i:Int)<(n:Int))=true:=by simp;omega
  obtain⟨u,rfl⟩:=k (by omega);have e:lQ T (m+1) i=(eB 1 (T i 0) 4&&eB 0 (T i 2) 1000&&lQ T m (i+1)):=rfl;rw[e]at K;refine aX F d b h A 20 [0,i,0,103,0,0,0,3,0,0,0,1] [2,2] [] [(23,i6 (T i 0)),(4,ptr f),(18,i6 i),(17,i6 n),(16,.slice (some u) n Y)] (λM=>bR (f) [i6 (T i 0),i6 (T i 1),i6 (T i 2)]::(M)) 1 51 6 [] [(decide ((↑i:Int)<(↑n:Int)),true)] [((↑i:Int),n)] [(3,(i,n))] λa C q a r t e=>bu F b a q 24 57 #[i6 1,i6 (T i 0),i6 4] λa a=>iI F d (T i 0) 1 4 q.sat (by omega) λe h e=>a _ _ _ h λa a z o a=>?_;cases I:eB 1 (T i 0) 4<;>rw[I]at z K
  .refine bB F d b c o z 13 [] [3,3,3,3,3] [] 2 (.bool false) (λM=>M) 0 65 14 [] λj e a h=>K j e.sat.tail.tail (by omega)
  refine aq F d b o z 4 [0,0,2,1] [1,1] [] [(28,i6 (T i 2)),(26,.bool false),(27,.pointer (some (Addr.mk f 2 none))),(18,i6 i),(17,i6 n),(16,.slice (some u) n Y)] (λM=>M) 0 56 6 [] λo j e j a h a=>bu F b j e 29 57 #[i6 0,i6 (T i 2),i6 1000] λa a=>iI F d (T i 2) 0 1000 e.sat (by omega) λe h e=>a _ _ _ h λa U y l a=>?_;cases H:eB 0 (T i 2) 1000<;>rw[H]at y K
  .refine bB F d b c l y 8 [] [1,3] [] 2 (.bool false) (λM=>M) 0 65 14 [] λa g e h=>K a g.sat.tail.tail (by omega)
  have j:IntKind.wrap .i64 ((i:Int)+1)=((i+1:Nat):Int):=by rw[aA (by omega) (by omega)];rfl
  refine aq F d b l y 11 [] [1,1] [] [(18,i6 (IntKind.wrap .i64 ((↑i:Int)+1))),(30,.bool false),(29,.bool true),(28,i6 (T i 2)),(27,.pointer (some (Addr.mk f 2 none))),(17,i6 n),(16,.slice (some u) n Y)] (λM=>M) 0 68 10 [] λl a g f e h e=>?_;rw[j]at g;replace g:=g.dB [(18,i6 ((i+1:Nat):Int)),(17,i6 n),(16,.slice (some u) n Y)] rfl;rw[show pc prog 41 68 (Bo 10) []=pc prog 41 31 [false] [] by kernel_rfl];exact Gb F d b c L k v m (i+1) l a U (by omega) f (by omega) (by omega) ⟨g.env,g.sat.tail,g.sz⟩ λD a b=>K D a (by omega)
theorem NJ(F:aB prog Q (DX E) O)(f:HB B E)(g:0<n->∃a,X=some a/\Has M (fR a 3 (λj=>[i6 (T j 0),i6 (T j 1),i6 (T j 2)]) n false))(i:Sat E w M)(a:B<=w.heap.size)(K:∀D,Sat E D M->w.heap.size<=D.heap.size->O (G (S.finish (.bool (iF st n T))) R) D):O (G (Frame.enter prog 41 #[.agg #[i6 st,.slice X n Y]] .normal) (S::R)) w:=by
 replace i:Sat E w (fR (X.getD ⟨0,0,none⟩) 3 (λj=>[i6 (T j 0),i6 (T j 1),i6 (T j 2)]) n false::M):=by
  by_cases z:0<n
  .obtain⟨u,rfl,h⟩:=g z;exact i.get h
  .exact i.ff (by simp_all) rfl
 refine cJ func41 i 33 λJ a g a b e a j h=>aq F f b a j 10 [0,0,0,1] [] [] [(6,i6 st),(1,ptr g)] (λM=>bR (g) [i6 st,.slice X n Y]::(M)) 1 10 1 [] λa a g a h h h=>bu F b a g 7 57 #[i6 0,i6 st,i6 1000] λa a=>iI F f st 0 1000 g.sat (by omega) λg h g=>a _ _ _ h λa m k d a=>?_;unfold iF at K;cases p:eB 0 st 1000<;>rw[p]at k K
 .refine bB F f b e d k 13 [] [3,3,3,3,3] [] 2 (.bool false) (λM=>M) 0 24 3 [] λa c g h=>K a c.sat.tail.tail (by omega)
 by_cases o:n<=12
 .have l:decide ((n:Int)>12)=false:=by simp;omega
  rw[show decide (12<n)=false by simp;omega]at K;refine aX F f b d k 20 [0,0,1,1,0,0,1,1] [1,1,1,1,0] [] [(18,i6 0),(17,i6 n),(16,.slice X n Y)] (λM=>M) 0 31 2 [] [(decide ((↑n:Int)>12),false)] [] [] λr a c j g h q=>?_;replace c:=c.dB [(18,i6 ((0:Nat):Int)),(17,i6 n),(16,.slice X n Y)] rfl;exact Gb F f b e o (λz=>by grind) (B1:=m) (by omega) n 0 r a m (bK _) j (az _) (by omega) ⟨c.env,c.sat.tail,c.sz⟩ λD j m=>K D j (by omega)
 .have l:decide ((n:Int)>12)=true:=by simp;omega
  rw[show decide (12<n)=true by simp;omega]at K;refine oH F f b e d k 13 [0,0,1,1] [1,1,1,1,2] [] 2 (.bool false) (λM=>M) 0 24 3 [] [(decide ((↑n:Int)>12),true)] [] [] λa c g h=>K a c.sat.tail.tail (by omega)
theorem KZ(F:aB prog Q (DX E) O)(h:HB B E){J:aC}(b:J.kind=.normal)(f:J.fn=27){S:aC}{R:cO}{M:aW}{sa:eP}{n cap:Nat}{g:Nat->Cl}(N:n<=9)(l:0<n->∃a,sa=some a)(I:∀j,j<n->0<(g j).nt->∃a,(g j).ta=some a/\Has M (fR a 3 (λi=>[i6 ((g j).T i 0),i6 ((g j).T i 1),i6 ((g j).T i 2)]) (g j).nt false)):
 ∀(m i:Nat)(p:Act)(w:aj)(k:Nat),i+m=n->p.defers=[]->B<=k->w.heap.size=k->St E k 19 [(7,i6 i),(6,i6 n),(5,.slice sa n cap),(0,.slice sa n cap)] (fR (sa.getD ⟨0,0,none⟩) 2 (λj=>[i6 (g j).st,.slice (g j).ta (g j).nt (g j).tc]) n false::M) 0 p w->
   (∀D,Sat E D M->w.heap.size<=D.heap.size->O (G (S.finish (i6 (fY g m i))) R) D)->O (G (J.at p (pc prog 27 13 [] [])) (S::R)) w
 |0,i,p,w,k,P,d,x,t,A,K=>by
  have T:decide ((i:Int)<(n:Int))=false:=by simp;omega
  have e:fY g 0 i=n:=by show i=n;omega
  rw[e]at K;refine oH F h b f d A 13 [] [0] [] 2 (i6 n) (λM=>M) 0 26 2 [] [(decide ((↑i:Int)<(↑n:Int)),false)] [] [] λH q s v=>K H q.sat.tail (by omega)
 |m+1,i,p,w,k,P,d,x,t,A,K=>by
  have T:decide ((i:Int)<(n:Int))=true:=by simp;omega
  obtain⟨u,rfl⟩:=l (by omega);refine aX F h b d A 21 [0,i,0,102,0,0,0,2,0,0,0,2] [2,2] [] [(12,.agg #[i6 (g i).st,.slice (g i).ta (g i).nt (g i).tc]),(3,i6 i),(7,i6 i),(6,i6 n),(5,.slice (some u) n cap),(0,.slice (some u) n cap)] (λM=>bR (k) [i6 (g i).st,.slice (g i).ta (g i).nt (g i).tc]::(M)) 1 34 3 [] [(decide ((↑i:Int)<(↑n:Int)),true)] [((↑i:Int),n)] [(2,(i,n))] λd H q d s v j=>bu F b d q 13 41 #[.agg #[i6 (g i).st,.slice (g i).ta (g i).nt (g i).tc]] λd d=>?_;have j:=I i (by omega);refine NJ F h (λz=>by obtain⟨a,r,C⟩:=j z;exact⟨a,r,C.cons.cons⟩) q.sat (by omega) λa j a=>d _ _ _ j λa U y o a=>?_;have e:fY g (m+1) i=if iF (g i).st (g i).nt (g i).T=false then i else fY g m (i+1):=rfl;rw[e]at K;cases L:iF (g i).st (g i).nt (g i).T<;>rw[L]at y K
  .refine bB F h b f o y 8 [] [3] [] 2 (i6 i) (λM=>M) 0 43 7 [] λa c d e=>K a c.sat.tail.tail (by omega)
  have j:IntKind.wrap .i64 ((i:Int)+1)=((i+1:Nat):Int):=by rw[aA (by omega) (by omega)];rfl
  refine aq F h b o y 10 [] [1] [] [(7,i6 (IntKind.wrap .i64 ((↑i:Int)+1))),(6,i6 n),(5,.slice (some u) n cap),(0,.slice (some u) n cap)] (λM=>M) 0 45 5 [] λk a c g d e d=>?_;rw[j]at c;replace c:=c.dB [(7,i6 ((i+1:Nat):Int)),(6,i6 n),(5,.slice (some u) n cap),(0,.slice (some u) n cap)] rfl;rw[show pc prog 27 45 (Bo 5) []=pc prog 27 13 [] [] by kernel_rfl];exact KZ F h b f N l I m (i+1) k a U (by omega) g (by omega) (by omega) ⟨c.env,c.sat.tail,c.sz⟩ λD r C=>K D r (by omega)
theorem Ge(F:aB prog Q (DX E) O)(f:HB B E){J:aC}(b:J.kind=.normal)(d:J.fn=26){S:aC}{R:cO}{M:aW}{sL:eP}{n cap:Nat}{L:oF}(hn:n<=6)(v:0<n->∃a,sL=some a)(T:∀i,i<n->L i 0≠6):
 ∀(m i:Nat)(r:Int)(N:Act)(w:aj)(l:Nat),i+m=n->0<=r->r<=2->N.defers=[]->B<=l->w.heap.size=l->St E l 29 [(8,i6 i),(7,i6 n),(6,.slice sL n cap),(3,i6 r),(0,.slice sL n cap)] (fR (sL.getD ⟨0,0,none⟩) 6 (oG L) n false::M) 0 N w->
   (∀D,Sat E D M->w.heap.size<=D.heap.size->O (G (S.finish (i6 (cZ L m i r))) R) D)->O (G (J.at N (pc prog 26 17 [] [])) (S::R)) w
 |0,i,r,N,w,l,hi,Zs,hr,h,Rg,W,P,K=>by
  have g1:decide ((i:Int)<(n:Int))=false:=by simp;omega
  have e:cZ L 0 i r=n:=by show i=n;omega
  rw[e]at K;refine oH F f b d h P 13 [] [0] [] 2 (i6 n) (λM=>M) 0 30 2 [] [(decide ((↑i:Int)<(↑n:Int)),false)] [] [] λC k q t=>K C k.sat.tail (by omega)
 |m+1,i,r,N,w,l,hi,Zs,hr,h,Rg,W,P,K=>by
  have g1:decide ((i:Int)<(n:Int))=true:=by simp;omega
  obtain⟨u,rfl⟩:=v (by omega);have e:cZ L (m+1) i r=if 2<(if L i 0=1 then r+1 else r)\/aF (L i 0) (L i 1) (L i 2) (L i 3) (L i 4) (L i 5)=false then i else cZ L m (i+1) (if L i 0=1 then r+1 else r):=rfl;rw[e]at K;have hw:IntKind.wrap .i64 ((i:Int)+1)=((i+1:Nat):Int):=by rw[aA (by omega) (by omega)];rfl
  have Y:IntKind.wrap .i64 (r+1)=r+1:=aA (by omega) (by omega);by_cases I:L i 0=1
  .have H:(L i 0==1)=true:=by simp_all
   rw[ah I]at K;by_cases OH:r=2
   .subst OH;rw[ah (.inl (by decide))]at K;refine oH F f b d h P 47 [0,i,0,106,0,0,0,6,0,0,0,1] [2,2,2,3,3,3,3] [] 2 (i6 i) (λM=>bR (l) [i6 (L i 0),i6 (L i 1),i6 (L i 2),i6 (L i 3),i6 (L i 4),i6 (L i 5)]::(M)) 1 64 15 [] [(L i 0==1,true),(decide ((↑i:Int)<(↑n:Int)),true)] [((↑i:Int),n)] [(6,(i,n))] λC k q t=>K C k.sat.tail.tail (by omega)
   have a:decide (r+1>2)=false:=by simp;omega
   have Z:decide (IntKind.wrap .i64 (r+1)>2)=false:=by simp_all
   refine aX F f b h P 37 [0,i,0,106,0,0,0,6,0,0,0,1,0,0,0,6] [2,2,2,0] [] [(21,.agg #[i6 (L i 0),i6 (L i 1),i6 (L i 2),i6 (L i 3),i6 (L i 4),i6 (L i 5)]),(20,.bool false),(3,i6 (IntKind.wrap .i64 (r+1))),(4,i6 i),(8,i6 i),(7,i6 n),(6,.slice (some u) n cap),(0,.slice (some u) n cap)] (λM=>bR (l) [i6 (L i 0),i6 (L i 1),i6 (L i 2),i6 (L i 3),i6 (L i 4),i6 (L i 5)]::(M)) 1 54 7 [] [(decide (IntKind.wrap .i64 (r+1)>2),false),(L i 0==1,true),(decide ((↑i:Int)<(↑n:Int)),true)] [((↑i:Int),n)] [(6,(i,n))] λa1 C k y q t o9=>bu F b y k 22 40 #[.agg #[i6 (L i 0),i6 (L i 1),i6 (L i 2),i6 (L i 3),i6 (L i 4),i6 (L i 5)]] λyS j=>F8 F f (L i 0) (L i 1) (L i 2) (L i 3) (L i 4) (L i 5) (T i (by omega)) k.sat (by omega) λw2 z X=>j _ _ _ z λa2 B3 A g V=>?_;cases hq:aF (L i 0) (L i 1) (L i 2) (L i 3) (L i 4) (L i 5)<;>rw[hq]at A K
   .rw[ah (.inr rfl)]at K;refine bB F f b d g A 9 [] [1,3] [] 2 (i6 i) (λM=>M) 0 64 15 [] λo c p s=>K o c.sat.tail.tail (by omega)
   rw[af (by simp_all)]at K;refine aq F f b g A 11 [] [1,1] [] [(8,i6 (IntKind.wrap .i64 ((↑i:Int)+1))),(23,.bool false),(22,.bool true),(21,.agg #[i6 (L i 0),i6 (L i 1),i6 (L i 2),i6 (L i 3),i6 (L i 4),i6 (L i 5)]),(3,i6 (IntKind.wrap .i64 (r+1))),(7,i6 n),(6,.slice (some u) n cap),(0,.slice (some u) n cap)] (λM=>M) 0 66 11 [] λa3 o c x p s mH=>?_;rw[hw,Y]at c;replace c:=c.dB [(8,i6 ((i+1:Nat):Int)),(7,i6 n),(6,.slice (some u) n cap),(3,i6 (r+1)),(0,.slice (some u) n cap)] rfl;rw[show pc prog 26 66 (Bo 11) []=pc prog 26 17 [] [] by kernel_rfl];exact Ge F f b d hn v T m (i+1) (r+1) a3 o B3 (by omega) (by omega) (by omega) x (by omega) (by omega) ⟨c.env,c.sat.tail,c.sz⟩ λD U z2=>K D U (by omega)
  .have H:(L i 0==1)=false:=by simp_all
   rw[af I]at K;have Z:decide (r>2)=false:=by simp;omega
   refine aX F f b h P 33 [0,i,0,106,0,0,0,6,0,0,0,1,0,0,0,6] [2,2,0,0] [] [(21,.agg #[i6 (L i 0),i6 (L i 1),i6 (L i 2),i6 (L i 3),i6 (L i 4),i6 (L i 5)]),(20,.bool false),(4,i6 i),(8,i6 i),(7,i6 n),(6,.slice (some u) n cap),(3,i6 r),(0,.slice (some u) n cap)] (λM=>bR (l) [i6 (L i 0),i6 (L i 1),i6 (L i 2),i6 (L i 3),i6 (L i 4),i6 (L i 5)]::(M)) 1 50 5 [] [(decide (r>2),false),(L i 0==1,false),(decide ((↑i:Int)<(↑n:Int)),true)] [((↑i:Int),n)] [(6,(i,n))] λa1 C k y q t o9=>bu F b y k 22 40 #[.agg #[i6 (L i 0),i6 (L i 1),i6 (L i 2),i6 (L i 3),i6 (L i 4),i6 (L i 5)]] λyS j=>F8 F f (L i 0) (L i 1) (L i 2) (L i 3) (L i 4) (L i 5) (T i (by omega)) k.sat (by omega) λw2 z X=>j _ _ _ z λa2 B3 A g V=>?_;cases hq:aF (L i 0) (L i 1) (L i 2) (L i 3) (L i 4) (L i 5)<;>rw[hq]at A K
   .rw[ah (.inr rfl)]at K;refine bB F f b d g A 9 [] [1,3] [] 2 (i6 i) (λM=>M) 0 60 13 [] λo c p s=>K o c.sat.tail.tail (by omega)
   rw[af (by simp_all)]at K;refine aq F f b g A 11 [] [1,1] [] [(8,i6 (IntKind.wrap .i64 ((↑i:Int)+1))),(23,.bool false),(22,.bool true),(21,.agg #[i6 (L i 0),i6 (L i 1),i6 (L i 2),i6 (L i 3),i6 (L i 4),i6 (L i 5)]),(7,i6 n),(6,.slice (some u) n cap),(3,i6 r),(0,.slice (some u) n cap)] (λM=>M) 0 62 9 [] λa3 o c x p s mH=>?_;rw[hw]at c;replace c:=c.dB [(8,i6 ((i+1:Nat):Int)),(7,i6 n),(6,.slice (some u) n cap),(3,i6 r),(0,.slice (some u) n cap)] rfl;rw[show pc prog 26 62 (Bo 9) []=pc prog 26 17 [] [] by kernel_rfl];exact Ge F f b d hn v T m (i+1) r a3 o B3 (by omega) (by omega) (by omega) x (by omega) (by omega) ⟨c.env,c.sat.tail,c.sz⟩ λD U z2=>K D U (by omega)
theorem Rj(F:aB prog Q (DX E) O)(f:HB B E)(k:n<=6)(j:∀i,i<n->L i 0≠6)(c:0<n->∃a,sL=some a/\Has M (fR a 6 (oG L) n false))(b:Sat E w M)(a:B<=w.heap.size)(K:∀D,Sat E D M->w.heap.size<=D.heap.size->O (G (S.finish (i6 (cZ L n 0 0))) R) D):O (G (Frame.enter prog 26 #[.slice sL n cap] .normal) (S::R)) w:=by
 replace b:Sat E w (fR (sL.getD ⟨0,0,none⟩) 6 (oG L) n false::M):=by
  by_cases z:0<n
  .obtain⟨u,rfl,d⟩:=c z;exact b.get d
  .exact b.ff (by simp_all) rfl
 refine cJ func26 b 29 λJ a l a a d c h g=>aq F f a c h 17 [] [] [] [(8,i6 0),(7,i6 n),(6,.slice sL n cap),(3,i6 0),(0,.slice sL n cap)] (λM=>M) 0 17 1 [] λi g e c h h h=>?_;replace e:=e.dB [(8,i6 ((0:Nat):Int)),(7,i6 n),(6,.slice sL n cap),(3,i6 0),(0,.slice sL n cap)] rfl;exact Ge F f a d k (λz=>by grind) j n 0 0 i g l (bK _) (by omega) (by omega) c (by omega) (by omega) e λD a c=>K D a (by omega)
theorem Rk(F:aB prog Q (DX E) O)(f:HB B E)(l:n<=9)(d:0<n->∃a,sa=some a/\Has M (fR a 2 (λj=>[i6 (g j).st,.slice (g j).ta (g j).nt (g j).tc]) n false))(k:∀j,j<n->0<(g j).nt->∃a,(g j).ta=some a/\Has M (fR a 3 (λi=>[i6 ((g j).T i 0),i6 ((g j).T i 1),i6 ((g j).T i 2)]) (g j).nt false))(b:Sat E w M)(a:B<=w.heap.size)(K:∀D,Sat E D M->w.heap.size<=D.heap.size->O (G (S.finish (i6 (fY g n 0))) R) D):O (G (Frame.enter prog 27 #[.slice sa n cap] .normal) (S::R)) w:=by
 replace b:Sat E w (fR (sa.getD ⟨0,0,none⟩) 2 (λj=>[i6 (g j).st,.slice (g j).ta (g j).nt (g j).tc]) n false::M):=by
  by_cases z:0<n
  .obtain⟨u,rfl,c⟩:=d z;exact b.get c
  .exact b.ff (by simp_all) rfl
 refine cJ func27 b 19 λJ a j a a d c h g=>aq F f a c h 13 [] [] [] [(7,i6 0),(6,i6 n),(5,.slice sa n cap),(0,.slice sa n cap)] (λM=>M) 0 13 1 [] λi g e c h h h=>?_;replace e:=e.dB [(7,i6 ((0:Nat):Int)),(6,i6 n),(5,.slice sa n cap),(0,.slice sa n cap)] rfl;exact KZ F f a d l (λz=>by grind) k n 0 i g j (bK _) c (by omega) (by omega) e λD a c=>K D a (by omega)
theorem r8(F:aB prog Q (DX E) O)(d:HB B E)(x:∀i,i<n->L i 0≠6)(t:0<n->∃a,sL=some a/\Has M (fR a 6 (oG L) n false))(v:0<m->∃a,sa=some a/\Has M (fR a 2 (λj=>[i6 (g j).st,.slice (g j).ta (g j).nt (g j).tc]) m false))(u:∀j,j<m->0<(g j).nt->∃a,(g j).ta=some a/\Has M (fR a 3 (λi=>[i6 ((g j).T i 0),i6 ((g j).T i 1),i6 ((g j).T i 2)]) (g j).nt false))(q:Sat E w M)(a:B<=w.heap.size)(K:∀D,Sat E D M->w.heap.size<=D.heap.size->O (G (S.finish (.tuple #[i6 (jG n L m g).1,i6 (jG n L m g).2])) R) D):O (G (Frame.enter prog 16 #[.slice sL n cA,.slice sa m cap] .normal) (S::R)) w:=by
 unfold jG at K;by_cases r:6<n
 .have k:decide ((n:Int)>6)=true:=by simp;omega
  rw[ah r]at K;refine cJ func16 q 28 λJ y z s a b e o i=>aX F d a e o 18 [] [2] [] [(5,i6 0),(4,i6 1)] (λM=>M) 0 18 3 [] [(decide ((↑n:Int)>6),true)] [] [] λw p f c h j l=>cC F f a b c [] (.tuple #[i6 1,i6 0]) ?_;exact K p f.sat (by omega)
 have k:decide ((n:Int)>6)=false:=by simp;omega
 rw[af r]at K;refine cJ func16 q 28 λJ y z s a b e o i=>aX F d a e o 18 [] [0] [] [(11,.slice sL n cA),(0,.slice sL n cA),(1,.slice sa m cap)] (λM=>M) 0 18 2 [] [(decide ((↑n:Int)>6),false)] [] [] λw p f c h j l=>bu F a c f 12 26 #[.slice sL n cA] λc c=>Rj F d (by omega) x t f.sat (by omega) λe f e=>c _ _ _ f λc c o f c=>?_;by_cases p:cZ L n 0 0<n
 .have l:decide (((cZ L n 0 0:Nat):Int)<(n:Int))=true:=by simp_all
  rw[ah p]at K;refine aX F d a f o 16 [] [2] [] [(5,i6 (↑(cZ L n 0 0):Int)),(4,i6 2)] (λM=>M) 0 35 6 [] [(decide ((↑(cZ L n 0 0):Int)<(↑n:Int)),true)] [] [] λq k e c h i j=>cC F e a b c [] (.tuple #[i6 2,i6 (↑(cZ L n 0 0):Int)]) ?_;exact K k e.sat (by omega)
 have l:decide (((cZ L n 0 0:Nat):Int)<(n:Int))=false:=by simp_all
 rw[af p]at K;by_cases p:9<m
 .have l:decide ((m:Int)>9)=true:=by simp;omega
  rw[ah p]at K;refine aX F d a f o 24 [] [0,2] [] [(5,i6 0),(4,i6 3)] (λM=>M) 0 43 12 [] [(decide ((↑m:Int)>9),true),(decide ((↑(cZ L n 0 0):Int)<(↑n:Int)),false)] [] [] λq k e c h i j=>cC F e a b c [] (.tuple #[i6 3,i6 0]) ?_;exact K k e.sat (by omega)
 have l:decide ((m:Int)>9)=false:=by simp;omega
 rw[af p]at K;refine aX F d a f o 24 [] [0,0] [] [(21,.slice sa m cap),(1,.slice sa m cap)] (λM=>M) 0 43 8 [] [(decide ((↑m:Int)>9),false),(decide ((↑(cZ L n 0 0):Int)<(↑n:Int)),false)] [] [] λq k e c h i j=>bu F a c e 22 27 #[.slice sa m cap] λc c=>Rk F d (by omega) v u e.sat (by omega) λe f e=>c _ _ _ f λc c o e c=>?_;by_cases h:fY g m 0<m
 .have f:decide (((fY g m 0:Nat):Int)<(m:Int))=true:=by simp_all
  rw[ah h]at K;refine aX F d a e o 16 [] [2] [] [(5,i6 (↑(fY g m 0):Int)),(4,i6 4)] (λM=>M) 0 60 24 [] [(decide ((↑(fY g m 0):Int)<(↑m:Int)),true)] [] [] λp j i c k l n=>cC F i a b c [] (.tuple #[i6 4,i6 (↑(fY g m 0):Int)]) ?_;exact K j i.sat (by omega)
 have f:decide (((fY g m 0:Nat):Int)<(m:Int))=false:=by simp_all
 rw[af h]at K;refine aX F d a e o 16 [] [0] [] [(5,i6 0),(4,i6 0)] (λM=>M) 0 60 16 [] [(decide ((↑(fY g m 0):Int)<(↑m:Int)),false)] [] [] λp j i c k l n=>cC F i a b c [] (.tuple #[i6 0,i6 0]) ?_;exact K j i.sat (by omega)
def iG(L:oF):Nat->Nat
 |0=>0
 |i+1=>if L i 0<=5 then iG L i+1 else iG L i
def qj(L:oF):Nat->Nat->Nat->Int
 |0=>λ_ _=>0
 |i+1=>if L i 0<=5 then upd (qj L i) (iG L i) (L i)else qj L i
theorem Gg(L:oF):∀i,iG L i<=i
 |0=>az _
 |i+1=>by have:=Gg L i;unfold iG;split<;>omega
theorem Gh(L:oF):∀i j,j<iG L i->qj L i j 0<=5
 |0,j,h=>by cases h
 |i+1,j,h=>by
  have b:=Gh L i j;unfold iG at h;unfold qj;by_cases a:L i 0<=5
  .rw[ah a]at h ⊢;by_cases e:j=iG L i
   .subst e;simp only[upd,if_true];exact a
   .simp only[upd,af e];exact b (by omega)
  .rw[af a]at h ⊢;exact b h
theorem It(L:oF)(i:Nat):∀u∈oG L i,u.oneCell'=true:=by intro u a;simp at a;rcases a with rfl|rfl|rfl|rfl|rfl|rfl<;>rfl
theorem T5:Qc prog 22 51 6 48=true:=by kernel_rfl
theorem zP(F:aB prog Q (DX E) O)(x:HB B E){J:aC}(c:J.kind=.normal){R:cO}{M:aW}{W sa:eP}{n c0 l iB:Nat}{L:oF}(hn:n<2932031007403)(s:0<n->∃a,W=some a):
 ∀(m i:Nat)(C:aW)(U:eP)(cap:Nat)(r:eX)(a0:Act)(w:aj)(g:Nat),i+m=n->Vc E U (iG L i) cap->a0.defers=[]->B<=g->w.heap.size=g->St E g 69 [(9,i6 i),(8,.slice U (iG L i) cap),(0,.slice W n c0),(1,.slice sa l iB),(2,i6 5)] (vR U 6 (oG (qj L i)) (iG L i) cap 51::sR U 6 r (iG L i) cap::fR (W.getD ⟨0,0,none⟩) 6 (oG L) n false::(C++M)) 0 a0 w->
   (∀C U cap r y D p,Vc E U (iG L n) cap->y.defers=[]->B<=p->w.heap.size<=p->D.heap.size=p->St E p 69 [(42,.slice sa l iB),(41,.slice U (iG L n) cap),(8,.slice U (iG L n) cap),(1,.slice sa l iB)] (vR U 6 (oG (qj L n)) (iG L n) cap 51::sR U 6 r (iG L n) cap::fR (W.getD ⟨0,0,none⟩) 6 (oG L) n false::(C++M)) 0 y D->O (G (J.at y (pc prog 21 42 [false,false] [])) R) D)->O (G (J.at a0 (pc prog 21 28 [false] [])) R) w
 |0,i,C,U,cap,r,a0,w,g,hi,X,k,Z,P9,S0,K=>by
  have g1:decide ((i:Int)<(n:Int))=false:=by simp;omega
  refine aX F x c k S0 14 [] [0] [] [(42,.slice sa l iB),(41,.slice U (iG L i) cap),(8,.slice U (iG L i) cap),(1,.slice sa l iB)] (λM=>M) 0 42 4 [] [(decide ((↑i:Int)<(↑n:Int)),false)] [] [] λa1 w1 o d S T o9=>?_;have e:i=n:=by omega
  subst e;exact K C U cap r a1 w1 g X d Z (by omega) (by omega) o
 |m+1,i,C,U,cap,r,a0,w,g,hi,X,k,Z,P9,S0,K=>by
  have g1:decide ((i:Int)<(n:Int))=true:=by simp;omega
  obtain⟨u,rfl⟩:=s (by omega);have hw:IntKind.wrap .i64 ((i:Int)+1)=((i+1:Nat):Int):=by rw[aA (by omega) (by omega)];rfl
  by_cases I:L i 0<=5
  .have Nh:decide (L i 0<=5)=true:=by simpa using I
   have h:iG L (i+1)=iG L i+1:=ah I;have t:qj L (i+1)=upd (qj L i) (iG L i) (L i):=ah I;have w:=Gg L i;refine aX F x c k S0 30 [2,i,0,101,2,i,0,106] [2,2,2,2] [] [(38,.slice (some ⟨g,0,none⟩) 1 1),(33,.slice U (iG L i) cap),(9,i6 i),(0,.slice (some u) n c0),(1,.slice sa l iB),(2,i6 5)] (λM=>bR (g) [i6 (L i 0),i6 (L i 1),i6 (L i 2),i6 (L i 3),i6 (L i 4),i6 (L i 5)]::(M)) 1 58 14 [] [(decide (L i 0<=5),true),(decide ((↑i:Int)<(↑n:Int)),true)] [((↑i:Int),n),((↑i:Int),n)] [(7,(i,n))] λa1 w1 o d S T o9=>Wn F (λa wr z=>x a wr (by omega)) c 33 38 39 22 51 6 48 1 2 0 T5 (by kernel_rfl) (by kernel_rfl) (by decide) rfl rfl rfl rfl (by decide) rfl X (λ_ _=>rfl) rfl (It L i) (az _) (by simp only[maxLen];omega) (by omega) o λN b P q a2 H A Y v=>?_;rw[show jB (pc prog 21 58 (Bo 14) [])=pc prog 21 59 [false,true,true] [] by kernel_rfl];have h2:Sat E H (bR g (oG L i)::vR (some ⟨N,0,none⟩) 6 (oG (qj L (i+1))) (iG L (i+1)) b 51::sR (some ⟨N,0,none⟩) 6 q (iG L (i+1)) b::fR u 6 (oG L) n false::(C++M)):=by
    rw[h,t];refine A.sat.re 1 rfl rfl (oG (upd (qj L i) (iG L i) (L i))) λj w f a=>?_;have a:j<iG L i+1:=w;by_cases e:j=iG L i
    .subst e;show(oG (upd (qj L i) (iG L i) (L i)) (iG L i)).getD f undef=(P (iG L i)).getD f undef;rw[A.new];simp[upd,oG]
    .show(oG (upd (qj L i) (iG L i) (L i)) j).getD f undef=(P j).getD f undef;rw[A.old j (by omega)];simp[upd,oG,e]
   have M1:=A.size;have V:=A.vc;rw[<-h]at V Y;have S2:St E H.heap.size 69 _ _ 0 a2 H:=⟨Y,Sat.back (A:=[vR (some ⟨N,0,none⟩) 6 (oG (qj L (i+1))) (iG L (i+1)) b 51,sR (some ⟨N,0,none⟩) 6 q (iG L (i+1)) b,fR u 6 (oG L) n false]) h2,rfl⟩;have tM:H.heap.size=H.heap.size:=rfl;replace v:=v.trans d;generalize hB3:H.heap.size=B3 at S2 tM M1;refine aq F x c v S2 9 [] [] [] [(9,i6 (IntKind.wrap .i64 ((↑i:Int)+1))),(8,.slice (some ⟨N,0,none⟩) (iG L (i+1)) b),(0,.slice (some u) n c0),(1,.slice sa l iB),(2,i6 5)] (λM=>M) 0 68 14 [] λj e S3 a f f f=>?_;rw[hw]at S3;rw[show pc prog 21 68 (Bo 14) []=pc prog 21 28 [false] [] by kernel_rfl];exact zP F x c hn s m (i+1) (bR g (oG L i)::C) (some ⟨N,0,none⟩) b q j e B3 (by omega) V a (by omega) (by omega) S3 λA e a b y D p z w q B j f=>K A e a b y D p z w q (by omega) j f
  .have Nh:decide (L i 0<=5)=false:=by simpa using I
   have h:iG L (i+1)=iG L i:=af I;have t:qj L (i+1)=qj L i:=af I;refine aX F x c k S0 31 [2,i,0,101] [2,2,0] [] [(9,i6 (IntKind.wrap .i64 ((↑i:Int)+1))),(8,.slice U (iG L i) cap),(0,.slice (some u) n c0),(1,.slice sa l iB),(2,i6 5)] (λM=>M) 0 59 10 [] [(decide (L i 0<=5),false),(decide ((↑i:Int)<(↑n:Int)),true)] [((↑i:Int),n)] [(1,(i,n))] λa1 w1 o d S T o9=>?_;rw[hw]at o;rw[show pc prog 21 59 (Bo 10) []=pc prog 21 28 [false] [] by kernel_rfl];rw[<-h]at X o;rw[<-t]at o;exact zP F x c hn s m (i+1) C U cap r a1 w1 g (by omega) X d (by omega) (by omega) o λA e a b y D p z w q B j f=>K A e a b y D p z w q (by omega) j f
abbrev Ru:aH:=oR 0 0 [.iface 217 (.agg #[.pointer (some ⟨1,121,none⟩)])] false
abbrev clR(sa:eP)(m:Nat)(g:Nat->Cl):aH:=fR (sa.getD ⟨0,0,none⟩) 2 (λj=>[i6 (g j).st,.slice (g j).ta (g j).nt (g j).tc]) m false
abbrev Kd(g:Nat->Cl)(j:Nat):aH:=fR ((g j).ta.getD ⟨0,0,none⟩) 3 (λi=>[i6 ((g j).T i 0),i6 ((g j).T i 1),i6 ((g j).T i 2)]) (g j).nt false
def cM(sa:eP)(m:Nat)(g:Nat->Cl):List aH:=Ru::clR sa m g::(List.range m).map (Kd g)
abbrev Y4(W:eP)(n:Nat)(L:oF):aH:=fR (W.getD ⟨0,0,none⟩) 6 (oG L) n false
theorem pY:∀r∈cM sa m g,r.wr=false:=λr a=>by
 simp only[cM,ak,gV]at a;rcases a with rfl|rfl|⟨j,_,rfl⟩<;>rfl
theorem GP:Flat (cM sa m g):=by
 rw[bO];intro r a;simp only[cM,ak,gV]at a;rcases a with rfl|rfl|⟨j,_,rfl⟩<;>rfl
theorem Yn(h:r∈C)(a:r.wr=false):Has C r:=mq.2 ⟨a,h⟩
theorem lD(h:∀r∈M,tX E w r/\r.wr=false):Sat E w M:=by
 refine sat_iff.2 ⟨λr b=>(h r b).1,?_⟩;refine WE λr b d a c=>?_;rw[(h r b).2,(h d a).2]at c;rcases c with z|z<;>cases z
theorem nU(a:r.wr=false)(c:r.row=none)(b:∀j,r.has j->w.cell? (r.ad j)=some (r.get j))(d:∀j,r.has j->E (r.ad j) false):tX E w r:=
 ⟨b,λj b=>⟨d j b,λz=>(by rw[a]at z;cases z)⟩,λz=>(by rw[a]at z;cases z),λg e n z=>(by rw[c]at z;cases z)⟩
theorem vD(h:nF w W n L)(k:∀p:Addr,W=some p->∀a:Addr,a.block=p.block->E a false):tX E w (Y4 W n L):=by
 refine nU rfl rfl (λj c=>?_) (λj c=>?_)
 .obtain⟨i,f⟩:=j;obtain⟨g,e⟩:=c;obtain⟨b,o,rfl,d⟩:=h i g;simp only at g e;have:=d f e;simp only[cQ,ey];rw[show o+i*6+f=o+i*6+f from rfl,this];rcases f with _|_|_|_|_|_|f
  .rfl
  .rfl
  .rfl
  .rfl
  .rfl
  .rfl
  .omega
 .obtain⟨i,f⟩:=j;obtain⟨b,o,rfl,d⟩:=h i c.1;exact k _ rfl _ (by simp only[cQ,ey])
theorem zv(h:sG w sa m g)(u:w.cell? ⟨0,0,none⟩=some (.iface 217 (.agg #[.pointer (some ⟨1,121,none⟩)])))(t:TO E sa m g)(q:E ⟨0,0,none⟩ false):Sat E w (cM sa m g):=by
 refine lD λr p=>?_;refine⟨?_,pY r p⟩;simp only[cM,ak,gV]at p;rcases p with rfl|rfl|⟨j,a,rfl⟩
 .refine nU rfl rfl (λj a=>?_) (λj a=>?_)
  .obtain⟨i,f⟩:=j;obtain⟨c,d⟩:=a;simp only[gB,iT]at c d;have e1:f=0:=by omega
   subst e1;exact u
  .obtain⟨i,f⟩:=j;obtain⟨c,d⟩:=a;simp only[gB,iT]at c d;have e1:f=0:=by omega
   subst e1;exact q
 .refine nU rfl rfl (λj a=>?_) (λj a=>?_)
  .obtain⟨i,f⟩:=j;obtain⟨c,d⟩:=a;obtain⟨b,o,rfl,n,l,_⟩:=h i c;simp only at c d;simp only[cQ,ey];rcases f with _|_|f
   .exact n
   .exact l
   .omega
  .obtain⟨i,f⟩:=j;obtain⟨b,o,rfl,n,l,_⟩:=h i a.1;exact t.1 _ rfl _ (by simp only[cQ,ey])
 .have l:j<m:=aZ.1 a;obtain⟨a,a,_,_,_,m⟩:=h j l;refine nU rfl rfl (λk a=>?_) (λk a=>?_)
  .obtain⟨i,f⟩:=k;obtain⟨c,d⟩:=a;obtain⟨b,o,e,h⟩:=m i c;simp only at c d;have:=h f d;show w.cell? ((((g j).ta.getD ⟨0,0,none⟩).add (i*3)).add f)=some (List.getD [i6 ((g j).T i 0),i6 ((g j).T i 1),i6 ((g j).T i 2)] f undef);rw[e];simp only[cQ,ey];rw[this];rcases f with _|_|_|f
   .rfl
   .rfl
   .rfl
   .omega
  .obtain⟨i,f⟩:=k;obtain⟨b,o,e,h⟩:=m i a.1;have s:=a.1;show E ((((g j).ta.getD ⟨0,0,none⟩).add (i*3)).add f) false;rw[e];exact t.2 j l (by simp only at s;omega) _ e _ (by simp only[cQ,ey])
theorem Sat.ZL{s:PS}(h:Sat E w (pM s++C)):Sat E w (sK s.ea s.l.ev s.l.el::nv (some ⟨s.k.O,0,none⟩) s.l.ou s.oh s.k.V.nc::C):=by
 have c:Sat E w ([vR s.ea 5 (λj=>yt (s.l.ev j)) s.l.el s.ec 55,fR ⟨s.k.O,0,none⟩ 4 (λj=>yL (s.l.ou j,s.oh j)) s.k.V.nc true]++C):=h.sub (D7 (by
  show List.Sublist [_,_] [_,_,_,_,_,_,_];exact .cons _ (.cons _ (.cons _ (.cons_cons _ (.cons _ (.cons _ (.cons_cons _ .slnil))))))) C)
 have b:=c.G7 0 rfl (sK s.ea s.l.ev s.l.el) (λj a=>⟨a,rfl,rfl⟩) (λz=>by cases z) rfl;exact b.G7 1 rfl (nv (some ⟨s.k.O,0,none⟩) s.l.ou s.oh s.k.V.nc) (λj a=>⟨a,rfl,rfl⟩) (λz=>by cases z) rfl
theorem Sat.Z2{s:RS}(h:Sat E w (mR s++C)):Sat E w (sK s.ea s.l.ev s.l.el::nv (some s.oa) s.l.ou s.oh s.V.nc::C):=by
 have d:Sat E w ([fR s.oa 4 (λj=>yL (s.l.ou j,s.oh j)) s.V.nc true,vR s.ea 5 (λj=>yt (s.l.ev j)) s.l.el s.ec 55]++C):=h.sub (D7 (by
  show List.Sublist [_,_] [_,_,_,_,_,_,_,_,_,_,_,_,_,_];exact .cons _ (.cons _ (.cons _ (.cons _ (.cons _ (.cons _ (.cons _ (.cons _ (.cons_cons _ (.cons_cons _ (.cons _ (.cons _ (.cons _ (.cons _ .slnil)))))))))))))) C)
 have c:=d.G7 0 rfl (nv (some s.oa) s.l.ou s.oh s.V.nc) (λj a=>⟨a,rfl,rfl⟩) (λz=>by cases z) rfl;have b:=c.G7 1 rfl (sK s.ea s.l.ev s.l.el) (λj a=>⟨a,rfl,rfl⟩) (λz=>by cases z) rfl;exact b.perm (.swap ..)
theorem Iw(w:aj):Old w w:=⟨rfl,rfl,rfl,az _,λ_ _=>rfl⟩
theorem Fg{a b c:aj}(h:Old a b)(k:Old b c):Old a c:=⟨k.1.trans h.1,k.2.1.trans h.2.1,k.2.2.1.trans h.2.2.1,aT h.2.2.2.1 k.2.2.2.1,λi a=>(k.2.2.2.2 i (c7 a h.2.2.2.1)).trans (h.2.2.2.2 i a)⟩
theorem zw{V:Ev0}{L Lf:LS}(Q:wM V)(T:yI V L)(P:Fin V Lf m none L)(m:0<Z)(L:∀x∈l,x<w.heap.size){dL:p9}{eu:bU}(B:Sj V sa dL eu M)(t:0<V.nl->∃u,sL=some u/\Has M (fR u 6 (λi=>Y3 (V.ly i)) V.nl false))(x:Sat (cP wI.heap.size l []) w M)(p:O3 (cP w.heap.size l []) (nM prog Post (Old w) (jq l) Z) w.heap.size M 16 #[.slice sL V.nl cA,.slice sa V.nc cap] (.tuple #[i6 0,i6 0]))(K:∀(b A:Nat)(o:Nat)(i:eP)(W:Nat)(u:yX)(C:aW)(D:aj),0<b->w.heap.size<=A->A<D.heap.size->(0<V.nc->w.heap.size<=o)->Old w D->Old wI D->(0<Lf.el->∃a,i=some a)->Sat (cP wI.heap.size (A::l) []) D (sK i Lf.ev Lf.el::nv (some ⟨o,0,none⟩) Lf.ou u V.nc::C)->(∀r,Has M r->Has C r)->(∀j,j<V.nc->fu C (u j) (Lf.ou j).b.ch)->
 nM prog Post (Old wI) (jq (A::l)) b (G (S.finish (.tuple #[.agg #[.slice (some ⟨o,0,none⟩) V.nc V.nc,.slice i Lf.el W],i6 0,i6 0])) R) D):
 nM prog Post (Old wI) (jq l) Z (G (Frame.enter prog 24 #[.slice sL V.nl cA,.slice sa V.nc cap] .normal) (S::R)) w:=by
 refine At.assume gN λq=>At.keep (K':=Old w) (λd=>Iw w) ?_;have n:wI.heap.size<=w.heap.size:=q.2.2.2.1;refine Pm Q T P m L B t (x.OB (λr c j y h=>⟨h.1,λz=>by cases z⟩) (λr c k=>by rw[B.ro r c]at k;cases k)) p λb A s C D O N J I H e v F E f=>?_;subst I;subst H;refine At.keep (λd=>Fg q e) ?_;have U:Sat (cP wI.heap.size (A::l) []) D (pM s++C):=v.OB (λr c j y h=>⟨h.1,λz=>by cases z⟩) (λr c k j y h=>⟨h.1,λz=>⟨aT n (h.2 z).1,(h.2 z).2⟩⟩);exact K b A s.k.O s.ea s.ec s.oh C D O N J (λz=>(((v.ok 6 (fR ⟨s.k.O,0,none⟩ 4 (λj=>yL (s.l.ou j,s.oh j)) s.k.V.nc true) rfl (0,0) ⟨z,(by decide:0<4)⟩).2 rfl).1.2 rfl).1) e (Fg q e) (λz=>by
  rcases F.jr.row with ⟨_,a,_⟩|⟨g,a,_⟩
  .omega
  .exact⟨_,a⟩) U.ZL E f
theorem iX{N:Nat}(c:∀A∈l,A<N)(c:N0<=N)(c:N<=a.block)(wr:Bool):cP N0 l [] a wr:=
 ⟨fun⟨A,a,z⟩=>by grind,λ_=>⟨by omega,fun⟨p,b,z⟩=>by cases b⟩⟩
theorem F5(t k:Nat)(L:LS):(L.aM t k).ou=L.ou/\(L.aM t k).el<=L.el+1:=by
 unfold LS.aM;split
 .exact⟨rfl,az _⟩
 simp
theorem yE(y:ju)(t k:Nat)(L:LS):(L.jg y t k).1.ou=L.ou/\(L.jg y t k).1.el<=L.el+3:=by
 unfold LS.jg LS.nV;split<;>exact⟨rfl,by simp[LS.say,LS.aO]⟩
theorem AX(y:ju)(t k:Nat)(L:LS):(L.pass y t k).1.ou=L.ou/\(L.pass y t k).1.el<=L.el+3:=by
 have h:=F5 t k L;have a:((L.aM t k).cz k).ou=L.ou/\((L.aM t k).cz k).el=(L.aM t k).el:=by unfold LS.cz;split<;>exact⟨h.1,rfl⟩
 unfold LS.pass LS.nV;split
 .exact⟨rfl,by simp[LS.say]⟩
 .split
  .exact⟨h.1,by show(L.aM t k).el+1<=_;omega⟩
  .exact⟨a.1,by show((L.aM t k).cz k).el+1<=_;omega⟩
theorem yz(y:ju)(t k:Nat)(b:Bk)(L:LS):(L.count y t k b).ou=L.ou/\(L.count y t k b).el<=L.el+3:=by
 unfold LS.count;split
 .simp
 .split
  .exact⟨rfl,by simp[LS.aO]⟩
  .simp only;split
   .exact⟨rfl,by simp[LS.say,LS.aO]⟩
   .split<;>exact⟨rfl,by simp[LS.say,LS.aO]⟩
theorem AD(y:ju)(t k:Nat)(L:LS):(L.take y t k).1.ou=L.ou/\(L.take y t k).1.el<=L.el+3:=by
 unfold LS.take LS.nV;split
 .exact⟨rfl,by simp[LS.say,LS.aO]⟩
 .split<;>exact⟨rfl,by simp[LS.say,LS.wait,LS.cB,LS.put]⟩
theorem Bf(t k:Nat)(L:LS):(L.fC t k).ou=L.ou/\(L.fC t k).el<=L.el+3:=by
 unfold LS.fC;split<;>exact⟨rfl,by simp[LS.say,LS.aO,LS.dg,LS.put]⟩
theorem HP(V:Ev0)(t k:Nat)(a:Option Bk)(L:LS)(j:Nat):(L.step V t k a).1.ou j=L.ou j\/∃b,a=some b/\(L.step V t k a).1.ou j=⟨L.now,b⟩:=by
 cases a with
 |none=>
  left;simp only[LS.step];split
  .split<;>rfl
  .split
   .rfl
   .split
    .rw[(yE ..).1]
    .split
     .rw[(AX ..).1]
     .split
      .rw[(AD ..).1]
      .rfl
 |some b=>
  simp only[LS.step];split
  .simp only[LS.end_,upd];grind
  .left;split
   .split
    .rfl
    .split
     .rfl
     .split<;>rfl
   .split
    .rw[(yz ..).1]
    .split
     .rw[(Bf ..).1]
     .split<;>rfl
theorem v7{V:Ev0}{l:LS}:∀(m:Nat)(f:Option (Nat×Nat×Option Bk))(L:LS),Fin V l m f L->(∀j,(L.ou j).b.ch.length<1000000)->∀j,(l.ou j).b.ch.length<1000000
 |0,_,_,h,_=>h.elim
 |m+1,some (t,k,a),L,h,g=>by
  obtain⟨r,e,i,d⟩:=h;have c:∀j,((L.step V t k a).1.ou j).b.ch.length<1000000:=λj=>by
   rcases HP V t k a L j with z|⟨b,j,f⟩
   .simp_all
   .rw[f];exact(i b j).1.1
  cases q:L.step V t k a with
  |mk n o=>
   rw[q]at d c;cases o with
   |none=>exact v7 m none n d c
   |some p=>exact v7 m (some (t,p.1,p.2)) n d c
 |m+1,none,L,h,g=>by
  obtain⟨r,e⟩:=h;split at e
  .simp_all
  .obtain⟨t,i,a⟩:=e;rcases a with ⟨_,_,a⟩|⟨w,_,_,⟨_,_,a⟩|⟨_,_,_,_,⟨_,_,y,ch,_,a⟩|⟨k,_,_,⟨_,_,a⟩|⟨_,_,a⟩|⟨_,_,a⟩⟩⟩⟩<;>exact v7 m _ _ a g
theorem HQ(V:Ev0)(t k:Nat)(a:Option Bk)(L:LS):(L.step V t k a).1.el<=L.el+3:=by
 cases a with
 |none=>
  simp only[LS.step];split
  .split<;>simp[LS.say,LS.wait,LS.cB,LS.put]
  .split
   .simp
   .split
    .exact(yE ..).2
    .split
     .exact(AX ..).2
     .split
      .exact(AD ..).2
      .simp
 |some b=>
  simp only[LS.step];split
  .simp[LS.end_]
  .split
   .split
    .simp
    .split
     .simp[LS.say]
     .split<;>simp[LS.say,LS.wait,LS.cB,LS.put]
   .split
    .exact(yz ..).2
    .split
     .exact(Bf ..).2
     .split<;>simp[LS.say]
theorem kL{V:Ev0}{i:LS}:∀(m:Nat)(f:Option (Nat×Nat×Option Bk))(L:LS),Fin V i m f L->L.el<2000000->i.el<2000000
 |0,_,_,h,_=>h.elim
 |m+1,some (t,k,a),L,h,c=>by
  obtain⟨g,e,n,b⟩:=h;have d:(L.step V t k a).1.el<2000000:=by have:=HQ V t k a L;have:=g.el;omega
  cases l:L.step V t k a with
  |mk j o=>
   rw[l]at b d;cases o with
   |none=>exact kL m none j b d
   |some p=>exact kL m (some (t,p.1,p.2)) j b d
 |m+1,none,L,h,c=>by
  obtain⟨g,e⟩:=h;split at e
  .simp_all
  .obtain⟨t,n,a⟩:=e;rcases a with ⟨_,_,a⟩|⟨w,_,_,⟨_,_,a⟩|⟨_,_,_,b,a⟩⟩
   .exact kL m _ _ a c
   .exact kL m _ _ a c
   .have f:L.el<1000000:=b.el;rcases a with ⟨_,_,y,ch,_,a⟩|⟨k,_,_,⟨_,_,a⟩|⟨_,_,a⟩|⟨_,_,a⟩⟩
    .exact kL m _ _ a (by show L.el+1<2000000;omega)
    .exact kL m _ _ a c
    .exact kL m _ _ a (by show L.el+1<2000000;omega)
    .exact kL m _ _ a (by show L.el+1<2000000;omega)
theorem RP(h:jG n L m g≠(0,0)):(jG n L m g).1≠0:=by
 unfold jG at h ⊢;grind
theorem Ln(V:Ev0):∀k t j,((Yp V k).tk t).q j=0
 |0,_,_=>rfl
 |k+1,t,j=>by
  show(upd (Yp V k).tk (Yp V k).tl _ t).q j=0;unfold upd;split
  .rfl
  .exact Ln V k t j
theorem Ej(F:aB prog true (DX E) O)(d:HB B E)(b:J.kind=.normal)(p:J.fn=21){s:Act}{f:Nat}(c:s.defers=[])(e:B<=f)(e:w.heap.size=f)(x:∀i,i<n->L i 0<=5)(e:jG n L m g≠(0,0))(t:0<n->∃a,U=some a/\Has M (fR a 6 (oG L) n false))(v:0<m->∃a,sa=some a/\Has M (fR a 2 (λj=>[i6 (g j).st,.slice (g j).ta (g j).nt (g j).tc]) m false))(u:∀j,j<m->0<(g j).nt->∃a,(g j).ta=some a/\Has M (fR a 3 (λi=>[i6 ((g j).T i 0),i6 ((g j).T i 1),i6 ((g j).T i 2)]) (g j).nt false))(k:St E f 69 [(42,.slice sa m iB),(41,.slice U n cap),(8,.slice U n cap),(1,.slice sa m iB)] M 0 s w)(K:∀D,w.heap.size<=D.heap.size->O (G (S.finish (.bool true)) R) D):O (G (J.at s (pc prog 21 42 [false,false] [])) (S::R)) w:=by
 have l:=RP e;refine bu F b c k 43 24 #[.slice U n cap,.slice sa m iB] λc h=>Pn F d l k.sat (by omega) (λr q D y c f e KK=>r8 F d (λi i=>by grind) (λz=>by grind) (λz=>by grind) (λj o z=>by grind) f e KK) λi k i=>h _ _ _ k λh i w h k=>aq F d b h w 13 [0,0,0,2] [] [] [(49,.slice sa m iB),(48,.slice U n cap),(12,i6 (jG n L m g).snd),(11,i6 (jG n L m g).fst),(10,ptr i)] (λM=>bR (i) [.slice none 0 0,.slice none 0 0]::(M)) 1 56 4 [] λh h i h k k k=>bu F b h i 50 31 #[.slice U n cap,.slice sa m iB] λh k=>Mh F d l i.sat (by omega) (λr q D y c f e KK=>ES F d x (λz=>by obtain⟨a,i,h⟩:=t z;exact⟨a,i,c _ h.cons⟩) (λz=>by obtain⟨a,i,h⟩:=v z;exact⟨a,i,c _ h.cons⟩) (λj o z=>by obtain⟨a,i,h⟩:=u j o z;exact⟨a,i,c _ h.cons⟩) f e KK) λa c a=>k _ _ _ c λa f e a c=>aq F d b a e 13 [0,0,0,2,1,0,0,2,0,0,0,2] [] [] [(55,.agg #[.slice none 0 0,.slice none 0 0]),(54,.agg #[.slice none 0 0,.slice none 0 0]),(15,i6 (jG n L m g).snd),(14,i6 (jG n L m g).fst),(12,i6 (jG n L m g).snd),(11,i6 (jG n L m g).fst)] (λM=>bR (f) [.slice none 0 0,.slice none 0 0]::(M)) 1 70 4 [] λa a c a e e e=>bu F b a c 56 32 #[.agg #[.slice none 0 0,.slice none 0 0],.agg #[.slice none 0 0,.slice none 0 0]] λa a=>EF (n:=0) (el:=0) (o1:=none) (o2:=none) (e1:=none) (e2:=none) (ou:=λ_=>⟨0,⟨0,0,[]⟩⟩) (sJ:=λ_=>.slice none 0 0) (qG:=λ_=>.slice none 0 0) (ev:=λ_=>⟨0,0,0,0,0⟩) F d (by omega) (by omega) (λz=>by omega) (λz=>by omega) (λz=>by omega) (λz=>by omega) (λj o=>by omega) (by omega) (Sat.ff (Sat.ff (Sat.ff (Sat.ff c.sat rfl rfl) rfl rfl) rfl rfl) rfl rfl) λc e c=>a _ _ _ e λa a e a c=>?_;have c:((jG n L m g).1==(jG n L m g).1)=true:=by simp
 have c:((jG n L m g).2==(jG n L m g).2)=true:=by simp
 refine oH F d b p a e 28 [] [3,3,3,3,2,3,3] [] 6 (.bool ((jG n L m g).snd==(jG n L m g).snd)) (λM=>M) 0 89 4 [] [((jG n L m g).fst==(jG n L m g).fst,true)] [] [] λa b b b=>?_;rw[c];exact K a (by omega)
theorem Ei(F:aB prog true (DX E) O)(n:HB B E)(b:J.kind=.normal)(l:J.fn=21){d c:Addr}{g e q:Nat}{o:Act}{f:Nat}(h:m<=9)(i:el<1000000000)(k:o.defers=[])(p:B<=f)(p:w.heap.size=f)(v:0<el->∃a,e1=some a)(u:0<el->∃a,e2=some a)(t:Has M (sK e1 ev el))(s:Has M (sK e2 ev el))(r:Has M (nv (some d) ou sJ m))(p:Has M (nv (some c) ou qG m))(a:∀j,j<m->(ou j).b.ch.length<1000000/\fu M (sJ j) (ou j).b.ch/\fu M (qG j) (ou j).b.ch)(x:St E f 69 [(50,.tuple #[.agg #[.slice (some c) m m,.slice e2 el e],i6 0,i6 0]),(12,i6 0),(11,i6 0),(10,ptr q)] (oR q 0 [.slice (some d) m m,.slice e1 el g] false::M) 0 o w)(K:∀D,w.heap.size<=D.heap.size->O (G (S.finish (.bool true)) R) D):O (G (J.at o (pc prog 21 57 [false,false] [])) (S::R)) w:=by
 refine aq F n b k x 13 [0,0,0,2,1,0,0,2,0,0,0,2] [] [] [(55,.agg #[.slice (some c) m m,.slice e2 el e]),(54,.agg #[.slice (some d) m m,.slice e1 el g]),(15,i6 0),(14,i6 0),(12,i6 0),(11,i6 0)] (λM=>bR (f) [.slice (some c) m m,.slice e2 el e]::(M)) 1 70 4 [] λf f k f q q q=>bu F b f k 56 32 #[.agg #[.slice (some d) m m,.slice e1 el g],.agg #[.slice (some c) m m,.slice e2 el e]] λe e=>EF (n:=m) (el:=el) (o1:=some d) (o2:=some c) (e1:=e1) (e2:=e2) (ou:=ou) (sJ:=sJ) (qG:=qG) (ev:=ev) F n i h v u (λ_=>⟨_,rfl⟩) (λ_=>⟨_,rfl⟩) (λj c=>⟨(a j c).1,(a j c).2.1.app [_,_],(a j c).2.2.app [_,_]⟩) (by omega) (Sat.get (Sat.get (Sat.get (Sat.get k.sat p.cons.cons) r.cons.cons.cons) s.cons.cons.cons.cons) t.cons.cons.cons.cons.cons) λa c a=>e _ _ _ (c) λa a d a c=>bB F n b l a d 28 [] [3,3,3,3,3,3,3] [] 6 (.bool true) (λM=>M) 0 89 4 [] λa b b b=>K a (by omega)
theorem Cf(U8:0<Z)(u:J.kind=.normal)(qh:J.fn=21){a0:Act}(hl:∀x∈l,x<w.heap.size)(T:Old wI w)(tN:a0.defers=[])(h2:∀i,i<n->L i 0<=5)(hck:jG n L m g=(0,0))(M6:∀r∈M,r.wr=false)(QM:Flat M)(T:Has M Ru)(q:0<n->∃a,U=some a/\Has M (fR a 6 (oG L) n false))(hc:0<m->∃a,sa=some a/\Has M (fR a 2 (λj=>[i6 (g j).st,.slice (g j).ta (g j).nt (g j).tc]) m false))(hg:∀j,j<m->0<(g j).nt->∃a,(g j).ta=some a/\Has M (fR a 3 (λi=>[i6 ((g j).T i 0),i6 ((g j).T i 1),i6 ((g j).T i 2)]) (g j).nt false))(hA:aR [(42,.slice sa m iB),(41,.slice U n cap),(8,.slice U n cap),(1,.slice sa m iB)] 69 a0)(hS:Sat (cP wI.heap.size l []) w M)(K:∀l' f D,0<f->(∀x∈l',x<D.heap.size)->Old wI D->nM prog Post (Old wI) (jq l') f (G (S.finish (.bool true)) R) D):nM prog Post (Old wI) (jq l) Z (G (J.at a0 (pc prog 21 42 [false,false] [])) (S::R)) w:=by
 have F:=nA (P:=prog) (Post:=Post) (wI:=wI) (l:=l) Z;have hV:=zl hck h2;have nI:=uZ (nC n L m g) m;obtain⟨mf,e,hf⟩:=Rr hV (L:=Yp (nC n L m g) m) nI.1 nI.2.1 (λi hi=>by rw[(nI.2.2.2.2.2.2.2 i hi).1];simp) nI.2.2.2.2.2.1 nI.2.2.2.2.1 nI.2.2.2.1 nI.2.2.1 (λt ht=>by rw[(nI.2.2.2.2.2.2.2 t ht).2];simp) (uY _ _) (Ln _ _);have hL:yI (nC n L m g) (Yp (nC n L m g) m):=⟨nI.1,nI.2.1,λi hi=>by rw[(nI.2.2.2.2.2.2.2 i hi).1];simp,nI.2.2.2.2.2.1,nI.2.2.2.2.2.2.1,nI.2.2.2.2.1,uY _ _,nI.2.2.2.1⟩;have hM:Sj (nC n L m g) sa (λj=>(g j).ta) (λj=>(g j).tc) M:=⟨M6,QM,hc,hg,T⟩;have t:St (cP wI.heap.size l []) w.heap.size 69 _ M 0 a0 w:=⟨hA,hS,rfl⟩;refine Af F u 43 24 #[.slice U n cap,.slice sa m iB] (by kernel_rfl) (by kernel_rfl) (by decide) t λt t=>zw (V:=nC n L m g) hV hL hf U8 hl (sL:=U) (sa:=sa) (cA:=cap) (cap:=iB) hM q hS (λY X D M' Vr N H KK=>r8 (n:=n) (m:=m) (L:=L) (g:=g) (nA Z) (λa wr z=>iX hl (az _) z wr) (λi hi=>by grind) (λz=>by obtain⟨a,b,d⟩:=q z;simp_all) (λz=>by obtain⟨a,b,d⟩:=hc z;simp_all) (λj k z=>by obtain⟨a,b,d⟩:=hg j k z;simp_all) N H (by simp_all)) λf A o v W P C p k1 T T _ k4 k5 k6 T k8 k9=>t _ _ _ λa1 t E=>?_;clear F;have F:=nA (P:=prog) (Post:=Post) (wI:=wI) (l:=A::l) f;have y:wI.heap.size<=p.heap.size:=k5.2.2.2.1;have Q:w.heap.size<=p.heap.size:=k4.2.2.2.1;have V:∀(a:Addr)(wr:Bool),p.heap.size<=a.block->cP wI.heap.size (A::l) [] a wr:=λa wr z=>iX (N:=p.heap.size) (λx hx=>by
  grind) y z wr
 have w:=kL mf none _ hf (by omega);have hou:=v7 mf none _ hf (λj=>by simp_all);have S1:St (cP wI.heap.size (A::l) []) p.heap.size 69 _ _ 0 a1 p:=⟨t,T,rfl⟩;have zS:p.heap.size=p.heap.size:=rfl;replace E:=E.trans tN;have t:(nC n L m g).nl=n:=rfl;have t:(nC n L m g).nc=m:=rfl;generalize hB1:p.heap.size=B at S1 zS V y Q;refine aq F V u E S1 13 [0,0,0,2] [] [] [(49,.slice sa m iB),(48,.slice U n cap),(12,i6 0),(11,i6 0),(10,ptr B)] (λM=>bR (B) [.slice (some ⟨o,0,none⟩) m m,.slice v e.el W]::(M)) 1 56 4 [] λT p O t w w w=>?_;replace O:St (cP wI.heap.size (A::l) []) B 69 _ (oR B 0 [.slice (some ⟨o,0,none⟩) m m,.slice v e.el W] false::sK v e.ev e.el::nv (some ⟨o,0,none⟩) e.ou P m::C) 1 T p:=⟨O.env,O.sat.fix,O.sz⟩;have up:∀r,Has M r->Has (oR B 0 [.slice (some ⟨o,0,none⟩) m m,.slice v e.el W] false::sK v e.ev e.el::nv (some ⟨o,0,none⟩) e.ou P m::C) r:=λr w=>(k8 r w).cons.cons.cons;refine bu F u t O 50 31 #[.slice U n cap,.slice sa m iB] λr r=>Pk (V:=nC n L m g) (Lf:=e) (sL:=U) (sa:=sa) (cA:=cap) (cap:=iB) (dL:=λj=>(g j).ta) (eu:=λj=>(g j).tc) (m:=mf) (M:=oR B 0 [.slice (some ⟨o,0,none⟩) m m,.slice v e.el W] false::sK v e.ev e.el::nv (some ⟨o,0,none⟩) e.ou P m::C) F V hV hf (λz=>by obtain⟨a,b,d⟩:=hc z;exact⟨a,b,up _ d⟩) (λc e z=>by obtain⟨a,b,d⟩:=hg c e z;exact⟨a,b,up _ d⟩) (λz=>by obtain⟨a,b,d⟩:=q z;exact⟨a,b,up _ d⟩) O.sat (by omega) (λY X D M' Vr N H KK=>by
  have c:∀p,Sat (cP wI.heap.size (A::l) []) p M'->D.heap.size<=p.heap.size->nM prog Post (Old wI) (jq (A::l)) f (G (Y.finish (.tuple #[i6 (jG n L m g).1,i6 (jG n L m g).2])) X) p:=by simp_all
  exact ES F V h2 (λz=>by obtain⟨a,b,d⟩:=q z;simp_all) (λz=>by obtain⟨a,b,d⟩:=hc z;simp_all) (λj k z=>by obtain⟨a,b,d⟩:=hg j k z;simp_all) N H c) λs C2 a g1 g2 a g4 I a=>r _ _ _ I.sat.Z2 λa B3 S3 CJ YF=>?_
 subst g1;have q1:Has C2 (oR B 0 [.slice (some ⟨o,0,none⟩) m m,.slice v s.l.el W] false):=g4 _ (Yn (bI ..) rfl);have q2:Has C2 (sK v s.l.ev s.l.el):=g4 _ (Yn (aP _ (bI ..)) rfl);have q3:Has C2 (nv (some ⟨o,0,none⟩) s.l.ou P m):=g4 _ (Yn (aP _ (aP _ (bI ..))) rfl);have q4:∀j,j<m->fu C2 (P j) (s.l.ou j).b.ch:=λj k=>by
  rcases k9 j k with z|⟨ca,h,i,b,d⟩
  .exact .inl z
  .obtain⟨_,i',KG⟩:=g4 (gQ ca (s.l.ou j).b.ch) (Has.cons (Has.cons (Has.cons (show Has C (gQ ca (s.l.ou j).b.ch)from⟨rfl,i,d⟩))));exact .inr ⟨ca,h,i',b,KG⟩
 have c:∀j,j<m->fu C2 (s.oh j) (s.l.ou j).b.ch:=λj k=>by
  rcases I.oh j k with z|⟨ca,h,i,b,d,_⟩
  .exact .inl z
  .exact .inr ⟨ca,h,i,b,d⟩
 have a:s.V.nc=m:=by rw[g2];rfl
 replace S3:=S3.get (q1.cons.cons);rw[a]at S3;have a:B<=B3:=by omega
 refine Ei F V u qh hV.nc (by omega) CJ a YF k6 (λz=>?_) q2.cons.cons (Yn (bI ..) rfl) q3.cons.cons (Yn (aP _ (bI ..)) rfl) (λj k=>⟨hou j,(q4 j k).app [_,_],(c j k).app [_,_]⟩) (S3.dB _ rfl) λc a=>At.assume gN λa=>K (A::l) f c k1 (λx hx=>by
  grind) a
 rcases I.rv.e.row with ⟨_,b,_⟩|⟨a,b,_⟩
 .omega
 simp_all
structure Ds(wI:aj)(W:eP)(n:Nat)(L:oF)(sa:eP)(m:Nat)(g:Nat->Cl):Prop where
 hL:nF wI W n L
 bL:∀p:Addr,W=some p->p.block<wI.heap.size
 hn:n<2932031007403
 hC:sG wI sa m g
 bC:∀p:Addr,sa=some p->p.block<wI.heap.size
 bT:∀i,i<m->0<(g i).nt->∀p:Addr,(g i).ta=some p->p.block<wI.heap.size
 i0:0<wI.heap.size
 hg:wI.cell? ⟨0,0,none⟩=some (.iface 217 (.agg #[.pointer (some ⟨1,121,none⟩)]))
theorem JA(h:sG w sa m g)(a:Old w D):sG D sa m g:=λi c=>by
 obtain⟨b,o,e,g,d,f⟩:=h i c;exact⟨b,o,e,a.cell _ _ g,a.cell _ _ d,λj c=>by
  obtain⟨b,o,e,d⟩:=f j c;exact⟨b,o,e,λk b=>a.cell _ _ (d k b)⟩⟩
theorem IJ(h:nF w sa n L)(c:Old w D):nF D sa n L:=λi a=>by
 obtain⟨b,o,e,d⟩:=h i a;exact⟨b,o,e,λk a=>c.cell _ _ (d k a)⟩
theorem jN(h:a.block∉l):cP N0 l [] a false:=
 ⟨fun⟨A,b,z⟩=>h (by rcases z with z|z<;>(simp at z;subst z;exact b)),λz=>by cases z⟩
theorem Ds.rd(h:Ds wI W n L sa m g)(c:∀B∈l,wI.heap.size<=B):TO (cP N0 l []) sa m g:=⟨λp b a e=>jN λz=>by have:=h.bC p b;have:=c _ z;omega,λi d f p b a e=>jN λz=>by have:=h.bT i d f p b;have:=c _ z;omega⟩
theorem LY(H:Ds wI W n L sa m g)(t:0<Z)(d:J.kind=.normal)(A:J.fn=21){O:Act}(u:∀x∈l,wI.heap.size<=x/\x<w.heap.size)(I:Old wI w)(Y:O.defers=[])(hA:aR [(17,.bool true),(0,.slice W n c0),(1,.slice sa m iB),(2,i6 5)] 69 O)(K:∀l' q D,0<q->(∀x∈l',x<D.heap.size)->Old wI D->nM prog Post (Old wI) (jq l') q (G (S.finish (.bool true)) R) D):nM prog Post (Old wI) (jq l) Z (G (J.at O (pc prog 21 7 [] [])) (S::R)) w:=by
 have F:=nA (P:=prog) (Post:=Post) (wI:=wI) (l:=l) Z;have f:wI.heap.size<=w.heap.size:=I.2.2.2.1;have q:∀x∈l,wI.heap.size<=x:=λx k=>(u x k).1;have N:∀(a:Addr)(wr:Bool),w.heap.size<=a.block->cP wI.heap.size l [] a wr:=λa wr z=>iX (λx k=>(u x k).2) f z wr;have hMc:Sat (cP wI.heap.size l []) w (cM sa m g):=zv (JA H.hC I) (I.cell _ _ H.hg) (H.rd q) (jN λz=>by have h:wI.heap.size<=0:=q _ z;have:=H.i0;omega);have hMl:tX (cP wI.heap.size l []) w (Y4 W n L):=vD (IJ H.hL I) λp h a G=>jN λz=>by have:=H.bL p h;have:=q _ z;omega
 have hM:Sat (cP wI.heap.size l []) w (Y4 W n L::cM sa m g):=lD λr c=>by
  rcases ak.1 c with rfl|c
  .exact⟨hMl,rfl⟩
  .exact⟨hMc.mem c,pY r c⟩
 have S0:St (cP wI.heap.size l []) w.heap.size 69 [(17,.bool true),(0,.slice W n c0),(1,.slice sa m iB),(2,i6 5)] (Y4 W n L::cM sa m g) 0 O w:=⟨hA,hM,rfl⟩;have T:w.heap.size=w.heap.size:=rfl;generalize hB0:w.heap.size=B0 at S0 T N f u;have hn:=H.hn;generalize XJ:cM sa m g=h at S0;refine aq F N d Y S0 21 [] [1] [] [(9,i6 0),(8,.slice none 0 0),(0,.slice W n c0),(1,.slice sa m iB),(2,i6 5)] (λM=>M) 0 28 2 [] λa1 w1 S1 X h h h=>?_;subst XJ;have h:0<n->∃a,W=some a:=λz=>by obtain⟨b,o,e,_⟩:=H.hL 0 z;exact⟨_,e⟩
 refine zP F N d hn h n 0 [] none 0 (λ_=>[]) a1 w1 B0 (bK _) rB X (az _) (by omega) ⟨S1.env,Sat.ff (Sat.ff S1.sat rfl rfl) rfl rfl,S1.sz⟩ λC U cap h h h p hv v Bl p Q P=>At.assume gN λB=>?_;have p:wI.heap.size<=h.heap.size:=B.2.2.2.1;have h2:Sat (cP wI.heap.size l []) h (Y4 U (iG L n) (qj L n)::cM sa m g):=by
  have h:=P.sat.sub (M':=vR U 6 (oG (qj L n)) (iG L n) cap 51::cM sa m g) (.cons_cons _ (.cons _ (.cons _ (D8 C _))));exact h.G7 0 rfl (Y4 U (iG L n) (qj L n)) (λj E=>⟨E,rfl,rfl⟩) (λz=>by cases z) rfl
 have V:∀r∈Y4 U (iG L n) (qj L n)::cM sa m g,r.wr=false:=λr c=>by
  rcases ak.1 c with rfl|c
  .rfl
  .exact pY r c
 have h:0<iG L n->∃b o,U=some ⟨b,o,none⟩:=λz=>by
  rcases hv.row with ⟨_,p,_⟩|⟨q,p,_⟩
  .omega
  .exact⟨q,0,p⟩
 have s:∀r∈cM sa m g,Has (Y4 U (iG L n) (qj L n)::cM sa m g) r:=λr c=>Yn (aP _ c) (pY r c);have q1:0<iG L n->∃a,U=some a/\Has (Y4 U (iG L n) (qj L n)::cM sa m g) (fR a 6 (oG (qj L n)) (iG L n) false):=λz=>by
  obtain⟨b,o,rfl⟩:=h z;exact⟨_,rfl,Yn (bI ..) rfl⟩
 have q2:0<m->∃a,sa=some a/\Has (Y4 U (iG L n) (qj L n)::cM sa m g) (fR a 2 (λj=>[i6 (g j).st,.slice (g j).ta (g j).nt (g j).tc]) m false):=λz=>by
  obtain⟨b,o,rfl,_⟩:=H.hC 0 z;exact⟨_,rfl,s _ (aP _ (bI ..))⟩
 have q3:∀j,j<m->0<(g j).nt->∃a,(g j).ta=some a/\Has (Y4 U (iG L n) (qj L n)::cM sa m g) (fR a 3 (λi=>[i6 ((g j).T i 0),i6 ((g j).T i 1),i6 ((g j).T i 2)]) (g j).nt false):=λj E z=>by
  obtain⟨a,a,_,_,_,a⟩:=H.hC j E;obtain⟨b,o,e,_⟩:=a 0 z;refine⟨_,e,?_⟩;have:=s (Kd g j) (aP _ (aP _ (gV.2 ⟨j,aZ.2 E,rfl⟩)));rw[show Kd g j=fR ⟨b,o,none⟩ 3 (λi=>[i6 ((g j).T i 0),i6 ((g j).T i 1),i6 ((g j).T i 2)]) (g j).nt false by simp only[Kd,e,cQ]]at this;exact this
 by_cases y:jG (iG L n) (qj L n) m g=(0,0)
 .refine Cf t d A (λx k=>by have:=(u x k).2;omega) B v (Gh L n) y V (by
   rw[bO];intro r c;rcases ak.1 c with rfl|c
   .rfl
   .exact(bO.1 GP) r c) (s _ (bI ..)) q1 q2 q3 P.env h2 K
 .exact Ej F N d A v Bl Q (Gh L n) y q1 q2 q3 ⟨P.env,h2,P.sz⟩ λb a=>At.assume gN λa=>K l Z b t (λx k=>by have:=(u x k).2;omega) a
def Q3(_ j:Nat):Int:=match j with|0=>1|1=>7|_=>3
def hT2(i j:Nat):Int:=match i,j with|0,0=>2|0,1=>1|0,_=>2|1,0=>2|1,1=>2|1,_=>0|_,0=>2|_,1=>3|_,_=>1
def Hl(_ j:Nat):Int:=match j with|0=>1|1=>3|2=>10|3=>2|4=>15|_=>0
def nI(i j:Nat):Int:=match i,j with|0,0=>2|1,0=>11|_,_=>0
abbrev CN(t:Nat)(_:Nat):Cl:=⟨5,some ⟨t,0,none⟩,1,1,Q3⟩
abbrev CL(t:Nat)(_:Nat):Cl:=⟨0,some ⟨t,0,none⟩,3,3,hT2⟩
abbrev V1:Ev0:=nC 0 nI 1 (CN 0)
abbrev V2:Ev0:=nC 1 Hl 1 (CL 0)
def F1:LS:=(ot V1 10 none (Yp V1 1)).getD (Yp V1 1)
def F2:LS:=(ot V2 30 none (Yp V2 1)).getD (Yp V2 1)
theorem NR:(ot V1 10 none (Yp V1 1)).isSome=true/\F1.ou 0=⟨8,⟨1,7,[]⟩⟩/\F1.el=2:=⟨by kernel_rfl,by kernel_rfl,by kernel_rfl⟩
theorem Rs:(ot V2 30 none (Yp V2 1)).isSome=true/\F2.ou 0=⟨28,⟨2,0,[⟨7,0,0⟩,⟨1,-1,3⟩]⟩⟩:=⟨by kernel_rfl,by kernel_rfl⟩
theorem fn1:Fin V1 F1 10 none (Yp V1 1):=kM _ _ _ (by rfl)
theorem fn2:Fin V2 F2 30 none (Yp V2 1):=kM _ _ _ (by rfl)
theorem VS:∀i,i<2->nI i 0≠6
 |0,_=>by decide
 |1,_=>by decide
 |i+2,h=>by omega
theorem ck0(g:Nat->Cl):jG 2 nI 0 g=(2,1):=by kernel_rfl
theorem Xy(t:Nat):jG 0 nI 1 (CN t)=(0,0):=by kernel_rfl
theorem Xg(t:Nat):jG 1 Hl 1 (CL t)=(0,0):=by kernel_rfl
theorem Sat.Wj{nb:Nat}{L:List iN}(h:Sat E w (bR nb (oZ L)::M)):Sat E w (gQ ⟨nb,0,none⟩ L::M):=by
 have i:=(sat_iff.1 h).1 _ (bI ..);have d:=dr.1 (sat_iff.1 h).2;have key:∀j f,j<L.length->f<3->(bR nb (oZ L)).has (0,j*3+f):=λj f l l=>⟨aD,by show _<(oZ L).length;rw[mh];omega⟩
 have b:∀j f:Nat,(gQ ⟨nb,0,none⟩ L).ad (j,f)=(bR nb (oZ L)).ad (0,j*3+f):=λj f=>by
  show((⟨nb,0,none⟩:Addr).add (j*3)).add f=⟨nb,j*3+f,none⟩
  rw[add_add]
 refine sat_iff.2 ⟨λr c=>?_,dr.2 ⟨λr c l j k a g e=>?_,d.2⟩⟩
 .rcases ak.1 c with rfl|c
  .refine nU rfl rfl (λj a=>?_) (λj a=>?_)
   .obtain⟨j,f⟩:=j;rw[b,i.val _ (key j f a.1 a.2)];congr 1;have l:=Yx L j f a.1 a.2;have l:j*3+f<(oZ L).length:=(key j f a.1 a.2).2;unfold aH.get;grind
   .obtain⟨j,f⟩:=j;rw[b];exact(i.ok _ (key j f a.1 a.2)).1
  .exact(sat_iff.1 h).1 r (aP _ c)
 .obtain⟨j,f⟩:=j;rw[b]at e;exact d.1 r c (.inl rfl) _ k (key j f a.1 a.2) g e
theorem Sat.Wp{b:Nat}{c:iO}(h:Sat E w M)(m:∀j,j<c.length->w.cell? ⟨b,j,none⟩=some (c.getD j undef))(l:∀j wr,E ⟨b,j,none⟩ wr)(o:∀j,j<c.length->w.frozen? ⟨b,j,none⟩=false)(p:∀r∈M,∀j,r.has j->∀i,i<c.length->r.ad j≠⟨b,i,none⟩):Sat E w (bR b c::M):=by
 refine sat_iff.2 ⟨λr f=>?_,dr.2 ⟨λr f i j k a d e=>?_,(sat_iff.1 h).2⟩⟩
 .rcases ak.1 f with rfl|f
  .refine⟨λj a=>?_,λj a=>⟨l _ _,λ_=>⟨l _ _,o _ a.2⟩⟩,λ_ j k a d e=>?_,λg e n z=>(by cases z)⟩
   .rw[show(bR b c).ad j=⟨b,j.2,none⟩from rfl,m j.2 a.2];congr 1;have b:j.2<c.length:=a.2;unfold aH.get;grind
   .have b:j.1<1:=a.1;have b:k.1<1:=d.1;grind
  .exact(sat_iff.1 h).1 r f
 .exact p r f k d j.2 a.2 e.symm
theorem FY(hg:wI.cell? ⟨0,0,none⟩=some (.iface 217 (.agg #[.pointer (some ⟨1,121,none⟩)])))(i0:0<wI.heap.size)(hO:Old wI w)(K:∀l' Xb D,0<Xb->(∀x∈l',wI.heap.size<=x/\x<D.heap.size)->Old wI D->nM prog Post (Old wI) (jq l') Xb (G (S.finish (.bool true)) R) D):nM prog Post (Old wI) (jq []) 1 (G (Frame.enter prog 15 #[] .normal) (S::R)) w:=by
 have F:=nA (P:=prog) (Post:=Post) (wI:=wI) (l:=[]) 1;have Y:wI.heap.size<=w.heap.size:=hO.2.2.2.1;have u:∀(a:Addr)(wr:Bool),w.heap.size<=a.block->cP wI.heap.size [] [] a wr:=λa wr z=>iX (λx v=>by cases v) Y z wr;have hS:Sat (cP wI.heap.size [] []) w []:=lD λr d=>by cases d
 have yQ:w.heap.size<=w.heap.size:=az _;generalize hB0:w.heap.size=B at u yQ Y;rw[<-hB0]at yQ;replace yQ:B<=w.heap.size:=by omega
 refine cJ func15 hS 110 λJ w s w h qh w G B=>aq F u h w G 9 [] [] [] [(12,.slice (some ⟨s,0,none⟩) 2 2)] (λM=>bR (s) [i6 2,i6 0,i6 0,i6 0,i6 0,i6 0,i6 11,i6 0,i6 0,i6 0,i6 0,i6 0]::(M)) 1 9 1 [] λw G B w zS Dx o9=>bu F h w B 13 16 #[.slice (some ⟨s,0,none⟩) 2 2,.slice none 0 0] λw I7=>?_;have FT:nF G (some ⟨s,0,none⟩) 2 nI:=λi l=>⟨s,0,rfl,λj q=>by
  have:=B.sat.val 0 _ rfl (0,i*6+j) ⟨aD,by simp_all;omega⟩;rw[show(⟨s,0+i*6+j,none⟩:Addr)=⟨s,i*6+j,none⟩ by simp];refine this.trans (cT some ?_);have KG:i=0\/i=1:=by omega
  have L:j=0\/j=1\/j=2\/j=3\/j=4\/j=5:=by omega
  rcases KG with rfl|rfl<;>rcases L with rfl|rfl|rfl|rfl|rfl|rfl<;>rfl⟩
 refine r8 (L:=nI) (g:=CN 0) (M:=[Y4 (some ⟨s,0,none⟩) 2 nI]) F u (λi l=>VS i l) (λ_=>⟨_,rfl,rfl,0,rfl⟩) (λz=>by omega) (λj q=>by omega) (lD λr d=>by
  have d:=wP.1 d;subst d;exact⟨vD FT λp y a ha=>jN (by simp),rfl⟩) (by omega) λs w s=>?_
 rw[ck0];refine I7 _ _ _ w λs f B s w=>aq F u h s B 24 [] [1,1,1] [] [(26,.slice (some ⟨f+1,0,none⟩) 1 1)] (λM=>bR (f+1) [i6 5,.slice (some ⟨f,0,none⟩) 1 1]::(bR (f) [i6 1,i6 7,i6 3]::(M))) 2 34 2 [] λs w3 S3 CJ s s s=>?_;have Vz:sG w3 (some ⟨f+1,0,none⟩) 1 (CN f):=λi l=>by
  have e:i=0:=by omega
  subst e;refine⟨f+1,0,rfl,S3.sat.val 0 _ rfl (0,0) ⟨aD,(by decide:0<2)⟩,S3.sat.val 0 _ rfl (0,1) ⟨aD,(by decide:1<2)⟩,λj q=>?_⟩;have e:j=0:=by simp_all
  subst e;refine⟨f,0,rfl,λk hk=>?_⟩;have:=S3.sat.val 1 _ rfl (0,k) ⟨aD,hk⟩;rw[show(⟨f,0+0*3+k,none⟩:Addr)=⟨f,k,none⟩ by simp];refine this.trans (cT some ?_);have Nh:k=0\/k=1\/k=2:=by omega
  rcases Nh with rfl|rfl|rfl<;>rfl
 have s:∀N:Nat,TO (cP N [] []) (some ⟨f+1,0,none⟩) 1 (CN f):=λN=>⟨λp y a ha=>jN (by simp),λi l h0 p y a ha=>jN (by simp)⟩
 refine Af F h 27 24 #[.slice none 0 0,.slice (some ⟨f+1,0,none⟩) 1 1] (by kernel_rfl) (by kernel_rfl) (by decide) S3 λcR O=>At.assume gN λw=>?_;have VR:Sat (cP wI.heap.size [] []) w3 (cM (some ⟨f+1,0,none⟩) 1 (CN f)):=zv Vz (w.cell _ _ hg) (s _) (jN (by simp));have n:∀r∈cM (some ⟨f+1,0,none⟩) 1 (CN f),Has (cM (some ⟨f+1,0,none⟩) 1 (CN f)) r:=λr d=>Yn d (pY r d);have s:=uZ V1 1;refine zw (V:=nC 0 nI 1 (CN f)) (L:=Yp V1 1) (Lf:=F1) (m:=10) (M:=cM (some ⟨f+1,0,none⟩) 1 (CN f)) (dL:=λ_=>some ⟨f,0,none⟩) (eu:=λ_=>1) (sL:=none) (cA:=0) (sa:=some ⟨f+1,0,none⟩) (cap:=1) (zl (Xy f) (λi l=>by omega)) ⟨s.1,s.2.1,λi l=>by rw[(s.2.2.2.2.2.2.2 i l).1];exact⟨rfl,rfl,rfl,rfl⟩,s.2.2.2.2.2.1,s.2.2.2.2.2.2.1,s.2.2.2.2.1,uY _ _,s.2.2.2.1⟩ fn1 (by decide) (λx v=>by cases v) ⟨λr d=>pY r d,GP,λ_=>⟨_,rfl,n _ (aP _ (bI ..))⟩,λc hc _=>⟨_,rfl,?_⟩,n _ (bI ..)⟩ (λz=>absurd z (Ap 0)) VR (λBL yR D M' A VO LM KK=>?_) λXa m o1 C P sJ C1 T k1 I s s k4 k5 k6 k7 k8 k9=>O _ _ _ λa4 KU Vx=>?_
 .have e:c=0:=by have:c<1:=hc;omega
  subst e;exact n (Kd (CN f) 0) (aP _ (aP _ (gV.2 ⟨0,aZ.2 (by decide),rfl⟩)))
 .exact r8 (n:=0) (m:=1) (L:=nI) (g:=CN f) (nA 1) (λa wr z=>iX (N:=w3.heap.size) (λx v=>by cases v) (az _) z wr) (λi l=>by omega) (λz=>by omega) (λ_=>⟨_,rfl,A _ (n _ (aP _ (bI ..)))⟩) (λj q _=>⟨_,rfl,A _ (by
   have e:j=0:=by omega
   subst e;exact n (Kd (CN f) 0) (aP _ (aP _ (gV.2 ⟨0,aZ.2 (by decide),rfl⟩))))⟩) VO LM (by rw[Xy];exact KK)
 clear F;have F:=nA (P:=prog) (Post:=Post) (wI:=wI) (l:=[m]) Xa;have f1:=NR.2.1;have f2:=NR.2.2;replace Vx:=Vx.trans CJ;have S4:St (cP wI.heap.size [m] []) T.heap.size 110 [(27,.tuple #[.agg #[.slice (some ⟨o1,0,none⟩) 1 1,.slice C F1.el P],i6 0,i6 0])] (sK C F1.ev F1.el::nv (some ⟨o1,0,none⟩) F1.ou sJ 1::C1) 0 a4 T:=⟨KU.sub (by intro p y;simp only[ak,bH,or_false]at y;subst y;rfl),k7,rfl⟩;have f:wI.heap.size<=T.heap.size:=k5.2.2.2.1;have n:w3.heap.size<=T.heap.size:=k4.2.2.2.1;clear u;have u:∀(a:Addr)(wr:Bool),T.heap.size<=a.block->cP wI.heap.size [m] [] a wr:=λa wr z=>iX (N:=T.heap.size) (λx v=>by
  simp_all) f z wr
 have Bj:T.heap.size=T.heap.size:=rfl;clear KU k6 k7 k8 k9 O;generalize F1=H at S4 f1 f2;generalize hB4:T.heap.size=b at S4 Bj u;have w:((H.el:Int) !=2)=false:=by simp_all
 have s:((H.ou 0).a !=8)=false:=by simp_all
 have n:((H.ou 0).b.k !=1)=false:=by simp_all
 have f:((H.ou 0).b.n !=7)=false:=by simp_all
 refine aX F u h Vx S4 73 [0,0,0,2,0,0,0,2,0,0,0,1,2,0,0,1,0,0,0,1,2,0,1,1,0,0,0,1,2,0,2,1] [1,1,1,1,1,1,1,1,0,1,1,2,1,1,1,0,1,1,2,1,1,1,0,1,1,2,1,1,1,0] [] [(79,.slice (some ⟨b+3,0,none⟩) 1 1),(76,.slice (some ⟨b+1,0,none⟩) 1 1),(3,ptr b)] (λM=>bR (b+3) [i6 0,.slice (some ⟨b+2,0,none⟩) 3 3]::(bR (b+2) [i6 2,i6 1,i6 2,i6 2,i6 2,i6 0,i6 2,i6 3,i6 1]::(bR (b+1) [i6 1,i6 3,i6 10,i6 2,i6 15,i6 0]::(bR (b) [.slice (some ⟨o1,0,none⟩) 1 1,.slice C H.el P]::(M))))) 4 108 4 [] [((H.ou 0).b.n !=7,false),((H.ou 0).b.k !=1,false),((H.ou 0).a !=8,false),((↑H.el:Int) !=2,false)] [(0,1),(0,1),(0,1)] [] λB Q S5 Yv Y5 B B=>?_;clear w s n f f1 f2;have Vy:sG Q (some ⟨b+3,0,none⟩) 1 (CL (b+2)):=λi l=>by
  have e:i=0:=by omega
  subst e;refine⟨b+3,0,rfl,S5.sat.val 0 _ rfl (0,0) ⟨aD,(by decide:0<2)⟩,S5.sat.val 0 _ rfl (0,1) ⟨aD,(by decide:1<2)⟩,λj q=>?_⟩;have f:j<3:=q;refine⟨b+2,0,rfl,λk hk=>?_⟩;have:=S5.sat.val 1 _ rfl (0,j*3+k) ⟨aD,by simp_all;omega⟩;rw[show(⟨b+2,0+j*3+k,none⟩:Addr)=⟨b+2,j*3+k,none⟩ by simp];refine this.trans (cT some ?_);have Nh:k=0\/k=1\/k=2:=by omega
  have L:j=0\/j=1\/j=2:=by omega
  rcases L with rfl|rfl|rfl<;>rcases Nh with rfl|rfl|rfl<;>rfl
 have QH:nF Q (some ⟨b+1,0,none⟩) 1 Hl:=λi l=>⟨b+1,0,rfl,λj q=>by
  have e:i=0:=by omega
  subst e;have:=S5.sat.val 2 _ rfl (0,j) ⟨aD,q⟩;rw[show(⟨b+1,0+0*6+j,none⟩:Addr)=⟨b+1,j,none⟩ by simp];refine this.trans (cT some ?_);have L:j=0\/j=1\/j=2\/j=3\/j=4\/j=5:=by omega
  rcases L with rfl|rfl|rfl|rfl|rfl|rfl<;>rfl⟩
 have KU:m<b:=by omega
 have UJ:∀N:Nat,∀p:Addr,(some (⟨b+1,0,none⟩:Addr))=some p->∀a:Addr,a.block=p.block->cP N [m] [] a false:=λN p y a ha=>jN (by grind);have UL:∀N:Nat,TO (cP N [m] []) (some ⟨b+3,0,none⟩) 1 (CL (b+2)):=λN=>⟨λp y a ha=>jN (by grind),λi l h0 p y a ha=>jN (by grind)⟩
 refine Af F h 80 24 #[.slice (some ⟨b+1,0,none⟩) 1 1,.slice (some ⟨b+3,0,none⟩) 1 1] (by kernel_rfl) (by kernel_rfl) (by decide) S5 λcR O=>At.assume gN λhO5=>?_;have f:wI.heap.size<=m:=by omega
 have ZV:Sat (cP wI.heap.size [m] []) Q (Y4 (some ⟨b+1,0,none⟩) 1 Hl::cM (some ⟨b+3,0,none⟩) 1 (CL (b+2))):=lD λr d=>by
  rcases ak.1 d with rfl|d
  .exact⟨vD QH (UJ _),rfl⟩
  .exact⟨(zv Vy (hO5.cell _ _ hg) (UL _) (jN (by grind))).mem d,pY r d⟩
 have Z:∀r∈Y4 (some ⟨b+1,0,none⟩) 1 Hl::cM (some ⟨b+3,0,none⟩) 1 (CL (b+2)),r.wr=false:=λr d=>by
  rcases ak.1 d with rfl|d
  .rfl
  .exact pY r d
 have g:∀r∈Y4 (some ⟨b+1,0,none⟩) 1 Hl::cM (some ⟨b+3,0,none⟩) 1 (CL (b+2)),Has (Y4 (some ⟨b+1,0,none⟩) 1 Hl::cM (some ⟨b+3,0,none⟩) 1 (CL (b+2))) r:=λr d=>Yn d (Z r d);have Xi:∀x∈[m],x<Q.heap.size:=λx v=>by
  grind
 have f:=uZ V2 1;refine zw (V:=nC 1 Hl 1 (CL (b+2))) (L:=Yp V2 1) (Lf:=F2) (m:=30) (M:=Y4 (some ⟨b+1,0,none⟩) 1 Hl::cM (some ⟨b+3,0,none⟩) 1 (CL (b+2))) (dL:=λ_=>some ⟨b+2,0,none⟩) (eu:=λ_=>3) (sL:=some ⟨b+1,0,none⟩) (cA:=1) (sa:=some ⟨b+3,0,none⟩) (cap:=1) (zl (Xg (b+2)) (λi l=>by show(1:Int)<=5;decide)) ⟨f.1,f.2.1,λi l=>by rw[(f.2.2.2.2.2.2.2 i l).1];exact⟨rfl,rfl,rfl,rfl⟩,f.2.2.2.2.2.1,f.2.2.2.2.2.2.1,f.2.2.2.2.1,uY _ _,f.2.2.2.1⟩ fn2 k1 Xi ⟨Z,?_,λ_=>⟨_,rfl,g _ (aP _ (aP _ (bI ..)))⟩,λc hc _=>⟨_,rfl,?_⟩,g _ (aP _ (bI ..))⟩ (λ_=>⟨_,rfl,g _ (bI ..)⟩) ZV (λBL yR D M' A VO LM KK=>?_) λW9 W E V U qG C2 o j1 f f Q0 j4 j5 j6 j7 j8 j9=>O _ _ _ λa6 TF DE=>?_
 .rw[bO];intro r d;rcases ak.1 d with rfl|d
  .rfl
  .exact(bO.1 GP) r d
 .have e:c=0:=by have:c<1:=hc;omega
  subst e;exact g (Kd (CL (b+2)) 0) (aP _ (aP _ (aP _ (gV.2 ⟨0,aZ.2 (by decide),rfl⟩))))
 .exact r8 (n:=1) (m:=1) (L:=Hl) (g:=CL (b+2)) (nA Xa) (λa wr z=>iX (N:=Q.heap.size) Xi (az _) z wr) (λi l=>by show(1:Int)≠6;decide) (λ_=>⟨_,rfl,A _ (g _ (bI ..))⟩) (λ_=>⟨_,rfl,A _ (g _ (aP _ (aP _ (bI ..))))⟩) (λj q _=>⟨_,rfl,A _ (by
   have e:j=0:=by omega
   subst e;exact g (Kd (CL (b+2)) 0) (aP _ (aP _ (aP _ (gV.2 ⟨0,aZ.2 (by decide),rfl⟩)))))⟩) VO LM (by rw[Xg];exact KK)
 have f1:=Rs.2;replace DE:=DE.trans Yv;have UB:wI.heap.size<=o.heap.size:=j5.2.2.2.1;have c:Q.heap.size<=o.heap.size:=j4.2.2.2.1;have c:Q.heap.size<=E:=Q0 aD;obtain⟨t,cap,i,eh,hci⟩:∃t cap i,qG 0=.slice (some t) 2 cap/\nth C2 i=some (gQ t [⟨7,0,0⟩,⟨1,-1,3⟩]):=by
  have:=j9 0 aD;rw[f1]at this;rcases this with ⟨_,z⟩|z
  .cases z
  .exact z
 have h6:Sat (cP wI.heap.size [W,m] []) o [nv (some ⟨E,0,none⟩) F2.ou qG 1,gQ t [⟨7,0,0⟩,⟨1,-1,3⟩]]:=j7.dB λk r d=>by
  match k,d with
  |0,d=>cases d;exact⟨rfl,1,rfl⟩
  |1,d=>cases d;exact⟨rfl,i+1+1,hci⟩
 have VW:=h6.G7 0 rfl (fR ⟨E,0,none⟩ 4 (λ_=>[i6 28,i6 2,i6 0,.slice (some t) 2 cap]) 1 false) (λj q=>⟨q,rfl,by
  have e:j.1=0:=by have:j.1<1:=q.1;omega
  show List.getD [i6 28,i6 2,i6 0,.slice (some t) 2 cap] j.2 undef=(yL (F2.ou j.1,qG j.1)).getD j.2 undef;rw[e,eh,f1];rfl⟩) (λz=>by cases z) rfl
 have c:Q.heap.size=b+4:=Y5;have Xk:∀j,j<2->o.cell? ⟨b,j,none⟩=some ([Value.slice (some ⟨o1,0,none⟩) 1 1,.slice C H.el P].getD j undef):=λj q=>by
  refine j4.cell _ _ ?_;have:=S5.sat.val 3 _ rfl (0,j) ⟨aD,q⟩;refine this.trans (cT some ?_);rfl
 have VF:o.heap[b]? =Q.heap[b]? :=j4.2.2.2.2 b (by omega);have h7:Sat (cP wI.heap.size [W,m] []) o (bR b [.slice (some ⟨o1,0,none⟩) 1 1,.slice C H.el P]::[fR ⟨E,0,none⟩ 4 (λ_=>[i6 28,i6 2,i6 0,.slice (some t) 2 cap]) 1 false,gQ t [⟨7,0,0⟩,⟨1,-1,3⟩]]):=by
  refine VW.Wp Xk (λj wr=>⟨?_,λ_=>⟨by grind,fun⟨p,y,z⟩=>by cases y⟩⟩) (λj q=>?_) (λr d k hk i l e=>?_)
  .exact(jN (N0:=0) (l:=[W,m]) (a:=⟨b,j,none⟩) (by simp only[ak,bH,or_false];omega)).1
  .have h0:=((S5.sat.ok 3 _ rfl (0,j) ⟨aD,q⟩).2 rfl).2;exact(World.frozen?_of_block VF).trans h0
  .have hc:=Xk i l;rcases ak.1 d with rfl|d
   .have hb:(((⟨E,0,none⟩:Addr).add (k.1*4)).add k.2).block=b:=cT Addr.block e;rw[add_add]at hb;grind
   .have d:=wP.1 d;subst d;have ON:=(VW.mem (aP _ (bI ..))).val k hk;rw[e,hc]at ON;obtain⟨c,I⟩:=k;have d:c<2:=hk.1;have d:I<3:=hk.2;have KG:i=0\/i=1:=by have:i<2:=l;omega
    have Vk:c=0\/c=1:=by omega
    have Vj:I=0\/I=1\/I=2:=by omega
    rcases KG with rfl|rfl<;>rcases Vk with rfl|rfl<;>rcases Vj with rfl|rfl|rfl<;>cases ON
 clear F;have F:=nA (P:=prog) (Post:=Post) (wI:=wI) (l:=[W,m]) W9;clear u;have Xh:∀x∈[W,m],wI.heap.size<=x/\x<o.heap.size:=λx v=>by
  simp only[ak,bH,or_false]at v;omega
 have u:∀(a:Addr)(wr:Bool),o.heap.size<=a.block->cP wI.heap.size [W,m] [] a wr:=λa wr z=>iX (N:=o.heap.size) (λx v=>(Xh x v).2) UB z wr;have S6:St (cP wI.heap.size [W,m] []) o.heap.size 110 [(80,.tuple #[.agg #[.slice (some ⟨E,0,none⟩) 1 1,.slice V F2.el U],i6 0,i6 0]),(3,ptr b)] (bR b [.slice (some ⟨o1,0,none⟩) 1 1,.slice C H.el P]::[fR ⟨E,0,none⟩ 4 (λ_=>[i6 28,i6 2,i6 0,.slice (some t) 2 cap]) 1 false,gQ t [⟨7,0,0⟩,⟨1,-1,3⟩]]) 0 a6 o:=⟨TF.sub (by intro p y;simp only[ak,bH,or_false]at y;rcases y with rfl|rfl<;>rfl),h7,rfl⟩;have YG:o.heap.size=o.heap.size:=rfl;have X:∀D:World,o.heap.size<=D.heap.size->∀x∈[W,m],wI.heap.size<=x/\x<D.heap.size:=λD hw x v=>by have:=Xh x v;omega
 clear TF j6 j7 j8 j9 O h7 h6 VW f1;generalize F2.el=V9 at S6;generalize hB6:o.heap.size=B6 at S6 YG u X;refine aX F u h DE S6 44 [0,0,0,2,1,0,0,1,1,0,0,1,2,0,0,1,1,0,0,1,2,0,3,1] [1,1,1,1,1,1,1,2,1,1,1,1,2] [] [(108,.slice (some ⟨B6,0,none⟩) 2 2),(107,.slice (some t) 2 cap)] (λM=>bR (B6) [i6 7,i6 0,i6 0,i6 1,i6 (-1),i6 3]::(bh 0 (0,1) (.slice V V9 U) (bh 0 (0,0) (.slice (some ⟨E,0,none⟩) 1 1) (M)))) 1 153 8 [] [] [(0,1),(0,1)] [] λa a c a d d d=>bu F h a c 109 25 #[.slice (some t) 2 cap,.slice (some ⟨B6,0,none⟩) 2 2] λa a=>AL F u (M:=[bR b [.slice (some ⟨E,0,none⟩) 1 1,.slice V V9 U],fR ⟨E,0,none⟩ 4 (λ_=>[i6 28,i6 2,i6 0,.slice (some t) 2 cap]) 1 false]) (L:=[⟨7,0,0⟩,⟨1,-1,3⟩]) (by decide) ((Sat.Wj (nb:=B6) (L:=[⟨7,0,0⟩,⟨1,-1,3⟩]) (M:=[bR b [.slice (some ⟨E,0,none⟩) 1 1,.slice V V9 U],fR ⟨E,0,none⟩ 4 (λ_=>[i6 28,i6 2,i6 0,.slice (some t) 2 cap]) 1 false,gQ t [⟨7,0,0⟩,⟨1,-1,3⟩]]) c.sat).perm ?_) (by omega) λb c b=>a _ _ _ c λa a c a b=>?_
 .exact(D2 (l₁:=[_,_,_]) (l₂:=[_]))
 refine bB F u h qh a c 2 [] [] [] 0 (.bool true) (λM=>M) 0 156 8 [] λb a a a=>At.assume gN λa=>K [W,m] W9 b j1 (X b (by omega)) a
theorem zo{P:aG}{b:aC}{a:Act}{fn:Func}{c:eC}{v:ay}(e:b.kind=.normal)(f:P.inits.idxOf? b.fn=none)(i:a.defers=[])(g:P.funcs[b.fn]? =some fn)(d:(results fn a.tmps).run P w=.ok v w)(h:(results fn a.tmps).events P w #[]=#[]):
 stepG P true (G {b.at a c with mode:=.returning} []) w=.ended (.done v) w #[]:=by
 simp[G,stepG,unwind,doReturn,Frame.at,e,i,g,d,h,f,seen,GStep.after]
theorem Iz:prog.inits.idxOf? 8=none:=by kernel_rfl
theorem upto_at(H:Ds wI W n L sa m g)(g:Old wI w)(K:∀e c D,0<c->(∀x∈e,x<D.heap.size)->Old wI D->nM prog Post (Old wI) (jq e) c (G (S.finish (.bool true)) R) D):nM prog Post (Old wI) (jq []) 1 (G (Frame.enter prog 21 #[.slice W n c0,.slice sa m cap,i6 5] .normal) (S::R)) w:=by
 have F:=nA (P:=prog) (Post:=Post) (wI:=wI) (l:=[]) 1;have b:wI.heap.size<=w.heap.size:=g.2.2.2.1;have o:∀(a:Addr)(wr:Bool),w.heap.size<=a.block->cP wI.heap.size [] [] a wr:=λa wr z=>iX (λx f=>by cases f) b z wr;have i:Sat (cP wI.heap.size [] []) w []:=lD λr h=>by cases h
 have d:w.heap.size<=w.heap.size:=az _;generalize j:w.heap.size=B at o d b;rw[<-j]at d;replace d:B<=w.heap.size:=by omega
 refine cJ func21 i 69 λJ a a a a h f i g=>aq F o a f i 6 [] [] [] [(0,.slice W n c0),(1,.slice sa m cap),(2,i6 5)] (λM=>M) 0 6 1 [] λf f i g f f f=>Af F a 17 15 #[] (by kernel_rfl) (by kernel_rfl) (by decide) i λf f=>At.assume gN λi=>FY H.hg H.i0 i λe c D c e i=>f _ _ _ λf k f=>LY (iB:=cap) (c0:=c0) H c a h e i (f.trans g) (k.sub ?_) K;intro p l;simp only[ak,bH,or_false]at l;rcases l with rfl|rfl|rfl|rfl<;>rfl
theorem EO(H:Ds wI W n L sa m g)(A:∀D,Old wI D->Post (.bool true) D):nM prog Post (Old wI) (jq []) 1 (G (Frame.enter prog 8 #[.slice W n c0,.slice sa m cap] .normal) []) wI:=by
 have F:=nA (P:=prog) (Post:=Post) (wI:=wI) (l:=[]) 1;have j:∀(a:Addr)(wr:Bool),wI.heap.size<=a.block->cP wI.heap.size [] [] a wr:=λa wr z=>iX (λx w=>by cases w) (az _) z wr;have y:Sat (cP wI.heap.size [] []) wI []:=lD λr c=>by cases c
 have g:wI.heap.size<=wI.heap.size:=az _;refine cJ func8 y 8 λJ g g g b i g x w=>aq F j b g x 8 [] [] [] [(6,.slice sa m cap),(5,.slice W n c0)] (λM=>M) 0 8 1 [] λg g w l g g g=>Af F b 7 21 #[.slice W n c0,.slice sa m cap,i6 5] (by kernel_rfl) (by kernel_rfl) (by decide) w λg g=>At.assume gN λm=>upto_at H m λh f D m k q=>g _ _ _ λB s e=>?_;clear F;have F:=nA (P:=prog) (Post:=Post) (wI:=wI) (l:=h) f;have o:Sat (cP wI.heap.size h []) D []:=lD λr c=>by cases c
 have C:St (cP wI.heap.size h []) D.heap.size 8 [(7,.bool true)] [] 0 B D:=⟨s.sub (by intro p v;simp only[ak,bH,or_false]at v;subst v;rfl),o,rfl⟩;have g:D.heap.size=D.heap.size:=rfl;clear j;have j:∀(a:Addr)(wr:Bool),D.heap.size<=a.block->cP wI.heap.size h [] a wr:=λa wr z=>iX (N:=D.heap.size) k q.2.2.2.1 z wr;replace e:=e.trans l;refine aq F j b e C 2 [] [] [] [(4,.bool true)] (λM=>M) 0 11 1 [] λu j k g a a a=>?_;have a:∀t:List Item,nM prog Post (Old wI) (jq h) f (G {J.at u t with mode:=.returning} []) j:=λt=>by
  have f:u.tmps.getD 4 undef=.bool true:=by rw[oK,k.env.val 4 (.bool true) rfl];rfl
  have c:=resultsC_tmp (P:=prog) (fn:=f8) (t:=4) (by rfl) u.tmps;rw[f]at c;refine At.Rv (v:=.bool true) (es:=#[]) rfl (λd=>?_) (by simp) (λd d=>A _ d) gN;exact zo b (by rw[i];exact Iz) g (by rw[i];exact func8) (c _).1 (c _).2
 exact F.ctl (λ_=>stepG_ret') (a _)
end Go.Proofs.YtobagnjnbmgidaaGreatDoor
