import Derived.Test.YtobagnjnbmgidaaGreatDoorM4
set_option linter.all false
set_option maxHeartbeats 8000000
set_option maxRecDepth 100000
namespace Go.Proofs.YtobagnjnbmgidaaGreatDoor
open Go.Conc
open Go.ConcN (sumTo upd sumTo_upd upd_ne upd_same)
section
variable(P:Program)(K:World→Prop)(Shun:Loc→Prop)(B:Nat)(Gp:rR)(Anchor:Goroutine→Prop)
def Qg(F:Goroutine→Prop)(k:Nat)(M:Nat→Goroutine→Prop)(t:Nat)(g:Goroutine):Prop:=
 (g.status=.running∧∃g',(∀w,K w→∃es,stepG P true g w=.go g' w es∧∀e∈es,xN Shun (fun _=>False) B 0 e∧e.loc≠.mark .disable∧e.loc≠.mark .enable)∧M t g')∨
 (t=0∧g.status=.running∧∃g',(∀w,K w→stepG P true g w=.go g' w #[vr .disable])∧M 1 g')∨
 (t=1∧g.status=.running∧(∀m,0<m→m≤k→∃g',(∀w,K w→jv .u64 Gp.st w (gv m 0)→stepG P true g w=.go g' w #[uJ Gp.st])∧M (100+m) g')∧∃g',(∀w,K w→jv .u64 Gp.st w (gv 0 0)→stepG P true g w=.go g' w #[uJ Gp.st])∧M 6 g')∨
 (t=5∧g.status=.running∧∃g',(∀w,K w→jv .u64 Gp.st w (gv 0 0)→stepG P true g w=.go g' w #[uJ Gp.st])∧M 6 g')∨
 (∃m,0<m∧m≤k∧t=100+m∧g.status=.running∧(∃g',(∀w,K w→jv .u64 Gp.st w (gv m 0)→stepG P true g w=.go g' (w.setCell Gp.st (.int .u64 (gv m 1))) #[uJ Gp.st,ES Gp.st])∧M 3 g')∧∀m',m'<m→∃g',(∀w,K w→jv .u64 Gp.st w (gv m' 0)→stepG P true g w=.go g' w #[uJ Gp.st])∧F g')∨
 (t=3∧g.status=.running∧∃g',(∀w,K w→stepG P true g w=.go g' w #[vr (.write Gp.se)])∧M 4 g')∨
 (t=4∧g.status=.running∧g.offers=none∧∃g',(∀w,K w→jv .u32 Gp.se w 1→stepG P true g w=.go g' (w.setCell Gp.se (.int .u32 0)) (semEvents Gp.se))∧(∀w,K w→jv .u32 Gp.se w 0→stepG P true g w=.go {g with status:=.blocked} w #[])∧M 5 g')∨
 (t=6∧g.status=.running∧∃g',(∀w,K w→stepG P true g w=.go g' w #[vr .enable])∧M 7 g')∨
 (t=7∧g.status=.running∧∃g',(∀w,K w→stepG P true g w=.go g' w #[vr (.acquire Gp.st)])∧M 8 g')
def KW(F:Goroutine→Prop)(k:Nat):Nat→Nat→Goroutine→Prop
 |0,t,g=>t=8∧g.status=.running∧Anchor g
 |n+1,t,g=>(t=8∧g.status=.running∧Anchor g)∨Qg P K Shun B Gp F k (KW F k n) t g
def WS:Nat→Nat→Nat→Goroutine→Prop
 |0=>KW P K Shun B Gp Anchor (fun _=>False) 0
 |k+1=>KW P K Shun B Gp Anchor (fun g=>∃n,WS k n 1 g) (k+1)
def WF(k:Nat)(g:Goroutine):Prop:=∃k' n,k=k'+1∧WS P K Shun B Gp Anchor k' n 1 g
end
section
variable{P:Program}{K:World→Prop}{Shun:Loc→Prop}{B:Nat}{Gp:rR}{Anchor:Goroutine→Prop}{M M':Nat→Goroutine→Prop}{F F':Goroutine→Prop}{t n k:Nat}{g g':Goroutine}
theorem Qg.mono(hF:∀g,F g→F' g)(h:∀t g,M t g→M' t g)(x:Qg P K Shun B Gp F k M t g):Qg P K Shun B Gp F' k M' t g:=by
 rcases x with ⟨a,g',b,c⟩|⟨a,b,g',c,d⟩|⟨a,b,c,g',d,e⟩|⟨a,b,g',c,d⟩|⟨m,a,b,c,d,⟨g',e,f⟩,f'⟩|⟨a,b,g',c,d⟩|⟨a,b,c,g',d,e,f⟩|⟨a,b,g',c,d⟩|⟨a,b,g',c,d⟩
 ·exact .inl ⟨a,g',b,h _ _ c⟩
 ·exact .inr (.inl ⟨a,b,g',c,h _ _ d⟩)
 ·exact .inr (.inr (.inl ⟨a,b,fun m h1 h2=>by obtain⟨g2,x1,x2⟩:=c m h1 h2;exact⟨g2,x1,h _ _ x2⟩,g',d,h _ _ e⟩))
 ·exact .inr (.inr (.inr (.inl ⟨a,b,g',c,h _ _ d⟩)))
 ·exact .inr (.inr (.inr (.inr (.inl ⟨m,a,b,c,d,⟨g',e,h _ _ f⟩,fun m' hm=>by obtain⟨g2,x1,x2⟩:=f' m' hm;exact⟨g2,x1,hF _ x2⟩⟩))))
 ·exact .inr (.inr (.inr (.inr (.inr (.inl ⟨a,b,g',c,h _ _ d⟩)))))
 ·exact .inr (.inr (.inr (.inr (.inr (.inr (.inl ⟨a,b,c,g',d,e,h _ _ f⟩))))))
 ·exact .inr (.inr (.inr (.inr (.inr (.inr (.inr (.inl ⟨a,b,g',c,h _ _ d⟩)))))))
 ·exact .inr (.inr (.inr (.inr (.inr (.inr (.inr (.inr ⟨a,b,g',c,h _ _ d⟩)))))))
theorem KW.up:∀(n m:Nat)(t:Nat)(g:Goroutine),n≤m→KW P K Shun B Gp Anchor F k n t g→KW P K Shun B Gp Anchor F k m t g
 |0,0,_,_,_,x=>x
 |0,_+1,_,_,_,x=>.inl x
 |n+1,0,_,_,h,_=>absurd h (by omega)
 |n+1,m+1,_,_,h,x=>x.elim .inl fun y=>.inr (y.mono (fun _ z=>z) fun t g=>KW.up n m t g (by omega))
theorem WS.eq:WS P K Shun B Gp Anchor k=KW P K Shun B Gp Anchor (WF P K Shun B Gp Anchor k) k:=by
 cases k with
 |zero=>
  have:WF P K Shun B Gp Anchor 0=fun _=>False:=by funext g;simp[WF]
  rw[this];rfl
 |succ k=>
  have:WF P K Shun B Gp Anchor (k+1)=fun g=>∃n,WS P K Shun B Gp Anchor k n 1 g:=by
   funext g
   refine propext ⟨fun⟨k',n,e,h⟩=>?_,fun⟨n,h⟩=>⟨k,n,rfl,h⟩⟩;obtain rfl:k=k':=by omega
   exact⟨n,h⟩
  rw[this];rfl
theorem WS.up(h:WS P K Shun B Gp Anchor k n t g)(m:Nat)(hm:n≤m):WS P K Shun B Gp Anchor k m t g:=by rw[WS.eq] at h ⊢;exact KW.up n m t g hm h
theorem WS.one(h:Qg P K Shun B Gp (WF P K Shun B Gp Anchor k) k (fun t g=>WS P K Shun B Gp Anchor k n t g) t g):WS P K Shun B Gp Anchor k (n+1) t g:=by rw[WS.eq] at h ⊢;exact .inr h
theorem WS.inv(h:WS P K Shun B Gp Anchor k n t g):(t=8∧g.status=.running∧Anchor g)∨∃m,n=m+1∧Qg P K Shun B Gp (WF P K Shun B Gp Anchor k) k (fun t g=>WS P K Shun B Gp Anchor k m t g) t g:=by
 rw[WS.eq] at h;cases n with
 |zero=>exact .inl h
 |succ m=>exact h.elim .inl fun x=>.inr ⟨m,rfl,by rw[WS.eq];exact x⟩
theorem WS.Pa(hs:g.status=.running)(h:Anchor g):WS P K Shun B Gp Anchor k n 8 g:=by
 rw[WS.eq];cases n with
 |zero=>exact⟨rfl,hs,h⟩
 |succ n=>exact .inl ⟨rfl,hs,h⟩
theorem WS.running(h:WS P K Shun B Gp Anchor k n t g):g.status=.running:=by
 rcases h.inv with ⟨_,h,_⟩|⟨_,_,h⟩
 ·exact h
 rcases h with ⟨h,_⟩|⟨_,h,_⟩|⟨_,h,_⟩|⟨_,h,_⟩|⟨_,_,_,_,h,_⟩|⟨_,h,_⟩|⟨_,h,_⟩|⟨_,h,_⟩|⟨_,h,_⟩<;>exact h
end
def Ij(k a:Nat)(ds:List Nat)(sg:Nat→Nat)(s m:Int):Prop:=
 (((a≤1∧ds.length≤k)∨∃j,a=100+j∧0<j∧j≤k∧ds.length≤j)∧(∀i,i∈ds→sg i≤2)∧s=gv ds.length 0∧m=0)∨
 ((a=3∨a=4)∧(∀i,i∈ds→sg i≤2)∧0<ds.length∧s=gv ds.length 1∧m=0)∨
 ((a=3∨a=4)∧(∃i,ds=[i]∧(sg i=3∨sg i=4))∧s=gv 0 1∧m=0)∨
 ((a=3∨a=4)∧(∃i,ds=[i]∧sg i=5)∧s=gv 0 0∧m=0)∨
 ((a=3∨a=4)∧ds=[]∧s=gv 0 0∧m=1)∨
 (5≤a∧a≤8∧ds=[]∧s=gv 0 0∧m=0)
section
variable{P:Program}{K:World→Prop}{Shun:Loc→Prop}{St:Nat→Loc→Prop}{B:Nat}{Inb:Nat→Option Seat}{Gp:rR}{Anchor:Goroutine→Prop}{h:Nat}{ds:List Nat}{sg:Nat→Nat}{T:Trace}{gs:Array Goroutine}{w:World}{q:Nat→Nat}
theorem C3.slip(C:C3 P K Shun St B Inb Gp h ds sg T gs w q){i:Nat}{g:Goroutine}(sl:Option (Nat×Nat))(hi:gs[i]? =some g)(Cs:i≠h)(dz:i∉ds)(hn:Inb i=none)(fM:g.status=.running):
 ∃bQ g' ops q',runT P (crowd gs w sl) i=(.next (crowd bQ w sl),ops)∧(∀op∈ops,op.g=i)∧bQ.size=gs.size∧(∀y,gs[h]? =some y→bQ[h]? =some (woken P g g' w y))∧C3 P K Shun St B Inb Gp h ds sg (T++ops) bQ w q'∧sumTo gs.size q'<sumTo gs.size q:=by
 have aT:i<gs.size:=(Array.getElem?_eq_some_iff.1 hi).1;have hI:=C.idle i g Cs dz hi;rw[hn] at hI;obtain⟨yU,hq⟩:=hI;have yV:(i==0)=false:=by simp;omega
 cases uv:q i with
 |zero=>rw[uv] at hq;rw[hq.1] at fM;cases fM
 |succ k=>
  rw[uv] at hq;rcases hq with ⟨hf,_⟩|⟨_,g',es,hm,wR,dQ⟩
  ·rw[hf] at fM;cases fM
  have jI:∀x,x≠i→x≠h→((gs.map (woken P g g' w)).setIfInBounds i g')[x]? =gs[x]? :=by
   intro x hx LF;rw[Array.getElem?_setIfInBounds_ne (fun e=>hx e.symm),Array.getElem?_map];cases e:gs[x]? with
   |none=>rfl
   |some y=>simp[woken_of_again (P:=P) (x:=g) (x':=g') (C.fixed LF e)]
  have lC:((gs.map (woken P g g' w)).setIfInBounds i g')[i]? =some g':=Array.getElem?_setIfInBounds_self_of_lt (by simpa using aT);have hD:∀x,x≠i→Deaf (T++MemOp.ofEvents i g.frame.fn g.frame.place es) x=Deaf T x:=fun x hx=>Deaf_other T (fun z=>hx z.symm) _ gr
  have hp:=rY (g:=i) C.past (u:=MemOp.ofEvents i g.frame.fn g.frame.place es) gr (fun op aQ b hb=>by obtain⟨e,he,rfl⟩:=Go.Conc.mem_ofEvents aQ;rw[touch_mute (hm e he)] at hb;cases hb) (fun hs=>by rw[hn] at hs;cases hs) (fun op aQ=>by obtain⟨e,he,rfl⟩:=Go.Conc.mem_ofEvents aQ;exact low_mute (hm e he) B);refine⟨_,g',_,upd q i k,runT_crowd_go (sl:=sl) hi (by rw[yV];exact wR w),gr,by simp,fun y hy=>?_,⟨fun x y hx hd hy=>?_,fun x hx=>?_,C.nd,C.chans,C.wf,C.inj,fun j hj=>?_,C.low,C.Ao,C.ss,hp,C.keep⟩,iC aT uv (Nat.le_refl _)⟩
  ·rw[Array.getElem?_setIfInBounds_ne Cs,Array.getElem?_map,hy];rfl
  ·by_cases e:x=i
   ·subst e
    rw[lC] at hy;obtain rfl:=Option.some.inj hy;rw[hn,upd_same];exact⟨yU,by rw[Deaf_own];exact dQ⟩
   ·rw[jI x e hx] at hy
    rw[upd_ne q k e];have:=C.idle x y hx hd hy;cases ei:Inb x with
    |none=>rw[ei] at this;exact⟨this.1,by rw[hD x e];exact this.2⟩
    |some s=>rw[ei] at this;exact this
  ·have e:x≠i:=fun z=>dz (z▸hx)
   obtain⟨h1,h2,h3,y,h4,h5,h6⟩:=C.dep x hx;exact⟨h1,h2,h3,y,by rw[jI x e h1];exact h4,by rw[upd_ne q k e];exact h5,by rw[hD x e];exact h6⟩
  ·simp only[Array.size_setIfInBounds,Array.size_map] at hj
   rw[hD j (by omega)];exact C.above j hj
theorem Ky(e:Event)(x:xN Shun (fun _=>False) B 0 e):xN Shun (oI St (fun g=>((fun _=>none:Nat→Option Seat) g).isSome)) B 0 e:=
 ⟨fun y hy=>⟨fun⟨g,hg,_⟩=>(by cases hg),(x.1 y hy).2⟩,x.2⟩
theorem Rf(J:JK K Shun B Gp):∀(L k S:Nat)(gs:Array Goroutine)(w:World)(sl:Option (Nat×Nat))(T:Trace)(q:Nat→Nat)(a0:Goroutine)(bl:Bool)(tm nm:Nat)(ds:List Nat)(sg:Nat→Nat)(s m:Int),
 sumTo gs.size q=L→2*nm+(if bl then 0 else 1)=S→gs[0]? =some (if bl then{a0 with status:=.blocked} else a0)→C3 P K Shun St B (fun _=>none) Gp 0 ds sg T gs w q→WS P K Shun B Gp Anchor k nm tm a0→
 (bl=true→tm=4∧m=0∧a0.offers=none)→ds.length≤9→Ij k tm ds sg s m→jv .u64 Gp.st w s→jv .u32 Gp.se w m→Deaf T 0=dM tm→
 ∃N m' T',runNT P N (crowd gs w sl) T=(.next m',T')∧Joined P K Shun B Gp Anchor gs.size m' T':=by
 intro L
 induction L using Nat.strongRecOn with
 |_ L VP=>
 intro k
 induction k using Nat.strongRecOn with
 |_ k ihk=>
 intro S
 induction S using Nat.strongRecOn with
 |_ S ihS=>
 intro gs w sl T q a0 bl tm nm ds sg s m hL hS h0 C hM Iz h9 hT bN oM aP;have Ch:=hM.running;have aak:0<gs.size:=(Array.getElem?_eq_some_iff.1 h0).1
 by_cases Mb:Anchor a0∧tm=8
 ·obtain⟨hA,rfl⟩:=Mb
  have hb:bl=false:=by
   cases bl with
   |false=>rfl
   |true=>have:=(Iz rfl).1;omega
  subst hb
  obtain⟨rfl,rfl,rfl⟩:ds=[]∧s=gv 0 0∧m=0:=by
   rcases hT with ⟨x,_⟩|⟨x,_⟩|⟨x,_⟩|⟨x,_⟩|⟨x,_⟩|⟨_,_,x,y,z⟩
   ·rcases x with x|⟨j,x,_⟩<;>omega
   ·omega
   ·omega
   ·omega
   ·omega
   ·exact⟨x,y,z⟩
  exact⟨0,_,T,rfl,gs,w,sl,q,a0,rfl,rfl,h0,hA,⟨fun x y hx hy=>C.idle x y hx (by simp) hy,fun i s c _ e=>(by cases e),fun i s e=>(by cases e),fun _ _ z=>z.elim,fun i i' s s' c e=>(by cases e),C.above,fun i s e=>(by cases e),fun i hi=>hi.elim,fun i s _ e=>(by cases e),⟨C.past.clean,fun i a ha hm=>.inl ((C.past.known i a ha hm).elim id fun⟨_,g,_,hg,_⟩=>by cases hg),fun _ _ _ _ z=>z.elim,fun _ z=>z.elim,C.past.seen⟩,C.keep⟩,aP,bN,oM⟩
 have yT:∃(i:Nat)(g:Goroutine),gs[i]? =some g∧g.status=.running:=by
  cases bl with
  |false=>exact⟨0,a0,h0,Ch⟩
  |true=>
   obtain⟨e1,e2,_⟩:=Iz rfl
   have aN:∃i,i∈ds:=by
    rcases hT with ⟨x,_⟩|⟨_,_,x,_⟩|⟨_,⟨i,x,_⟩,_⟩|⟨_,⟨i,x,_⟩,_⟩|⟨_,_,_,x⟩|⟨x,_⟩
    ·rcases x with x|⟨j,x,_⟩<;>omega
    ·exact List.exists_mem_of_length_pos x
    ·exact⟨i,by rw[x];simp⟩
    ·exact⟨i,by rw[x];simp⟩
    ·omega
    ·omega
   obtain⟨i,hi⟩:=aN;obtain⟨_,_,_,g,hg,cG,_⟩:=C.dep i hi;exact⟨i,g,hg,cG.running⟩
 have Oo:∀g∈gs,awake g:=by
  refine C.awake h0 ?_;cases bl with
  |false=>exact .inl Ch
  |true=>exact .inr rfl
 obtain⟨i,g,d,fN,hi,hg,tL⟩:=crowd_pick (P:=P) (w:=w) (sl:=sl) Oo yT;have Cd:C3 P K Shun St B (fun _=>none) Gp 0 ds sg T gs (w.at d) q:=C.in (J.at' _ d C.keep) (fun _ _ _ e=>by cases e);have eU:K (w.at d):=Cd.keep;have next:∀{m₁ ops},runT P (crowd gs (w.at d) fN) i=(.next m₁,ops)→∀N,runNT P (N+1) (crowd gs w sl) T=runNT P N m₁ (T++ops):=fun e N=>by simp only[runNT,tL,e]
 by_cases e0:i=0
 ·subst e0
  have hb:bl=false:=by
   cases bl with
   |false=>rfl
   |true=>rw[h0] at hi;obtain rfl:=Option.some.inj hi;cases hg
  subst hb;obtain rfl:g=a0:=by rw[h0] at hi;exact(Option.some.inj hi).symm
  have step0:∀(a':Goroutine)(w':World)(es:Array Event),stepG P true g (w.at d)=.go a' w' es→K w'→(∀e∈es,xN Shun (fun _=>False) B 0 e)→
   ∃bQ,runT P (crowd gs (w.at d) fN) 0=(.next (crowd bQ w' fN),MemOp.ofEvents 0 g.frame.fn g.frame.place es)∧bQ.size=gs.size∧bQ[0]? =some a'∧C3 P K Shun St B (fun _=>none) Gp 0 ds sg (T++MemOp.ofEvents 0 g.frame.fn g.frame.place es) bQ w' q∧Deaf (T++MemOp.ofEvents 0 g.frame.fn g.frame.place es) 0=deafBehind (dM tm) es:=by
   intro a' w' es eK hK fu;obtain⟨C',mA⟩:=Cd.own (a':=a') h0 hK (fun _ _ _ e=>by cases e) (fun e he=>Ky e (fu e he));exact⟨_,runT_crowd_go (sl:=fN) h0 eK,by simp,mA,C',by rw[Deaf_own,aP]⟩
  have main:∀(a':Goroutine)(w':World)(es:Array Event)(CV:Bool)(Qf:Goroutine)(Pq Us:Nat)(s' m':Int),stepG P true g (w.at d)=.go a' w' es→a'=(if CV then{Qf with status:=.blocked} else Qf)→K w'→(∀e∈es,xN Shun (fun _=>False) B 0 e)→deafBehind (dM tm) es=dM Pq→
   WS P K Shun B Gp Anchor k Us Pq Qf→(CV=true→Pq=4∧m'=0∧Qf.offers=none)→Ij k Pq ds sg s' m'→jv .u64 Gp.st w' s'→jv .u32 Gp.se w' m'→2*Us+(if CV then 0 else 1)<S→
   ∃N m' T',runNT P N (crowd gs w sl) T=(.next m',T')∧Joined P K Shun B Gp Anchor gs.size m' T':=by
   intro a' w' es CV Qf Pq Us s' m' eK mA hK fu vC yd Xk Kl uO GV aT;obtain⟨bQ,sv,cU,Eh,C',Kq⟩:=step0 a' w' es eK hK fu;obtain⟨N,mm,TT,hr,hj⟩:=ihS _ aT bQ w' fN _ q Qf CV Pq Us ds sg s' m' (by rw[cU];exact hL) rfl (by rw[Eh,mA]) C' yd Xk h9 Kl uO GV (by rw[Kq];exact vC);exact⟨N+1,mm,TT,by rw[next sv];exact hr,by rw[←cU];exact hj⟩
  have IA:∀{n:Nat},nm=n+1→2*n+1<S:=fun e=>by simp at hS;omega
  rcases hM.inv with ⟨rfl,hs,h⟩|⟨n,rfl,Xx⟩
  ·exact absurd ⟨h,rfl⟩ Mb
  rcases Xx with ⟨hs,g1,h,hn⟩|⟨rfl,hs,g1,h,hn⟩|⟨rfl,hs,aB,g1,uy,sw⟩|⟨rfl,hs,g1,uy,sw⟩|⟨j,j0,jk,rfl,hs,⟨g1,h1,cP⟩,Sj⟩|⟨rfl,hs,g1,h,hn⟩|⟨rfl,hs,ho,g1,h1,uy,hn⟩|⟨rfl,hs,g1,h,hn⟩|⟨rfl,hs,g1,h,hn⟩
  ·obtain⟨es,h1,h2⟩:=h _ eU
   exact main _ _ es false _ _ _ s m h1 rfl eU (fun e he=>(h2 e he).1) (deafBehind_still (fun e he=>(h2 e he).2) _) hn (fun z=>by cases z) hT bN oM (IA rfl)
  ·refine main _ _ _ false _ _ _ s m (h _ eU) rfl eU (dF (iG rfl trivial)) rfl hn (fun z=>by cases z) ?_ bN oM (IA rfl)
   rcases hT with ⟨x,y⟩|⟨x,_⟩|⟨x,_⟩|⟨x,_⟩|⟨x,_⟩|⟨x,_⟩
   ·rcases x with x|⟨j,x,_⟩
    ·exact .inl ⟨.inl ⟨by omega,x.2⟩,y⟩
    ·omega
   all_goals omega
  ·rcases hT with ⟨x,y1,rfl,rfl⟩|⟨x,_⟩|⟨x,_⟩|⟨x,_⟩|⟨x,_⟩|⟨x,_⟩
   ·have xl:ds.length≤k:=by
     rcases x with x|⟨j,x,_⟩
     ·exact x.2
     ·omega
    by_cases hz:ds.length=0
    ·have ji:=List.length_eq_zero_iff.1 hz
     subst ji;exact main _ _ _ false _ _ _ (gv 0 0) 0 (uy _ eU bN) rfl eU (dF (dO id J.zG)) rfl sw (fun z=>by cases z) (.inr (.inr (.inr (.inr (.inr ⟨by omega,by omega,rfl,rfl,rfl⟩))))) bN oM (IA rfl)
    ·obtain⟨g2,tN,mq⟩:=aB ds.length (by omega) xl
     refine main _ _ _ false _ _ _ (gv ds.length 0) 0 (tN _ eU bN) rfl eU (dF (dO id J.zG)) ?_ mq (fun z=>by cases z) (.inl ⟨.inr ⟨ds.length,rfl,by omega,xl,Nat.le_refl _⟩,y1,rfl,rfl⟩) bN oM (IA rfl);have:¬(100+ds.length=0∨100+ds.length=7∨100+ds.length=8):=by omega
     simp only[dM,this,if_false]
     rfl
   all_goals omega
  ·have hG:ds=[]∧s=gv 0 0∧m=0:=by
    rcases hT with ⟨x,_⟩|⟨x,_⟩|⟨x,_⟩|⟨x,_⟩|⟨x,_⟩|⟨_,_,x,y,z⟩
    ·rcases x with x|⟨j,x,_⟩<;>omega
    ·omega
    ·omega
    ·omega
    ·omega
    ·exact⟨x,y,z⟩
   obtain⟨rfl,rfl,rfl⟩:=hG;exact main _ _ _ false _ _ _ (gv 0 0) 0 (uy _ eU bN) rfl eU (dF (dO id J.zG)) rfl sw (fun z=>by cases z) (.inr (.inr (.inr (.inr (.inr ⟨by omega,by omega,rfl,rfl,rfl⟩))))) bN oM (IA rfl)
  ·have PR:dM (100+j)=1:=by
    have:¬(100+j=0∨100+j=7∨100+j=8):=by omega
    simp only[dM,this,if_false]
   rcases hT with ⟨x,y1,rfl,rfl⟩|⟨x,_⟩|⟨x,_⟩|⟨x,_⟩|⟨x,_⟩|⟨x,_⟩
   ·have xl:ds.length≤j:=by
     rcases x with x|⟨j',x,_,_,y⟩
     ·omega
     ·omega
    by_cases hz:ds.length=j
    ·subst hz
     exact main _ _ _ false _ _ _ (gv ds.length 1) 0 (h1 _ eU bN) rfl (J.st _ _ eU) (qE (dO id J.zG) (dO id J.zG)) (by rw[PR];rfl) cP (fun z=>by cases z) (.inr (.inl ⟨.inl rfl,y1,j0,rfl,rfl⟩)) (kR bN _) (gw oM Gp.ne _) (IA rfl)
    ·obtain⟨g2,tN,k',n',gB,mq⟩:=Sj ds.length (by omega)
     obtain⟨bQ,sv,cU,Eh,C',Kq⟩:=step0 g2 (w.at d) _ (tN _ eU bN) eU (dF (dO id J.zG));obtain⟨N,mm,TT,hr,hj⟩:=ihk k' (by omega) _ bQ (w.at d) fN _ q g2 false 1 n' ds sg (gv ds.length 0) 0 (by rw[cU];exact hL) rfl (by rw[Eh];rfl) C' mq (fun z=>by cases z) h9 (.inl ⟨.inl ⟨by omega,by omega⟩,y1,rfl,rfl⟩) bN oM (by rw[Kq,PR];rfl);exact⟨N+1,mm,TT,by rw[next sv];exact hr,by rw[←cU];exact hj⟩
   all_goals omega
  ·refine main _ _ _ false _ _ _ s m (h _ eU) rfl eU (dF ⟨fun x hx=>?_,J.Q6⟩) rfl hn (fun z=>by cases z) ?_ bN oM (IA rfl)
   ·have:(MemAct.ofEvent (vr (.write Gp.se))).touch? =some ⟨.cell Gp.se,true,.said⟩:=rfl
    rw[this] at hx;obtain rfl:=Option.some.inj hx;exact⟨fun z=>z.elim,fun _=>⟨by simp,fun _=>rfl⟩⟩
   ·rcases hT with ⟨x,_⟩|⟨x,y⟩|⟨x,y⟩|⟨x,y⟩|⟨x,y⟩|⟨x,_⟩
    ·rcases x with x|⟨j,x,_⟩<;>omega
    ·exact .inr (.inl ⟨.inr rfl,y⟩)
    ·exact .inr (.inr (.inl ⟨.inr rfl,y⟩))
    ·exact .inr (.inr (.inr (.inl ⟨.inr rfl,y⟩)))
    ·exact .inr (.inr (.inr (.inr (.inl ⟨.inr rfl,y⟩))))
    ·omega
  ·have hm:m=0∨(m=1∧ds=[]∧s=gv 0 0):=by
    rcases hT with ⟨_,_,_,x⟩|⟨_,_,_,_,x⟩|⟨_,_,_,x⟩|⟨_,_,_,x⟩|⟨_,x,y,z⟩|⟨_,_,_,_,x⟩
    ·exact .inl x
    ·exact .inl x
    ·exact .inl x
    ·exact .inl x
    ·exact .inr ⟨z,x,y⟩
    ·exact .inl x
   rcases hm with rfl|⟨rfl,rfl,rfl⟩
   ·exact main _ _ _ true g 4 (n+1) s 0 (uy _ eU oM) rfl eU tX rfl (WS.one (.inr (.inr (.inr (.inr (.inr (.inr (.inl ⟨rfl,hs,ho,g1,h1,uy,hn⟩)))))))) (fun _=>⟨rfl,rfl,ho⟩) hT bN oM (by simp at hS ⊢;omega)
   ·exact main _ _ _ false _ _ _ (gv 0 0) 0 (h1 _ eU oM) rfl (J.se _ _ eU) (HM (iG rfl trivial) (dO id J.Q6) (dO id J.Q6) (iG rfl trivial)) rfl hn (fun z=>by cases z) (.inr (.inr (.inr (.inr (.inr ⟨by omega,by omega,rfl,rfl,rfl⟩))))) (gw bN (fun z=>Gp.ne z.symm) _) (kR oM _) (IA rfl)
  ·have hG:ds=[]∧s=gv 0 0∧m=0:=by
    rcases hT with ⟨x,_⟩|⟨x,_⟩|⟨x,_⟩|⟨x,_⟩|⟨x,_⟩|⟨_,_,x,y,z⟩
    ·rcases x with x|⟨j,x,_⟩<;>omega
    ·omega
    ·omega
    ·omega
    ·omega
    ·exact⟨x,y,z⟩
   obtain⟨rfl,rfl,rfl⟩:=hG;exact main _ _ _ false _ _ _ (gv 0 0) 0 (h _ eU) rfl eU (dF (iG rfl trivial)) rfl hn (fun z=>by cases z) (.inr (.inr (.inr (.inr (.inr ⟨by omega,by omega,rfl,rfl,rfl⟩))))) bN oM (IA rfl)
  ·have hG:ds=[]∧s=gv 0 0∧m=0:=by
    rcases hT with ⟨x,_⟩|⟨x,_⟩|⟨x,_⟩|⟨x,_⟩|⟨x,_⟩|⟨_,_,x,y,z⟩
    ·rcases x with x|⟨j,x,_⟩<;>omega
    ·omega
    ·omega
    ·omega
    ·omega
    ·exact⟨x,y,z⟩
   obtain⟨rfl,rfl,rfl⟩:=hG;exact main _ _ _ false _ _ _ (gv 0 0) 0 (h _ eU) rfl eU (dF (iG rfl J.zG)) rfl hn (fun z=>by cases z) (.inr (.inr (.inr (.inr (.inr ⟨by omega,by omega,rfl,rfl,rfl⟩))))) bN oM (IA rfl)
 have wk:∀(g':Goroutine)(w':World),∃CV,woken P g g' w' (if bl then{a0 with status:=.blocked} else a0)=(if CV then{a0 with status:=.blocked} else a0)∧(CV=true→bl=true∧¬(mayWake P g=true∧g'.status=.running)):=by
  intro g' w';cases bl with
  |false=>exact⟨false,by simp only[Bool.false_eq_true,if_false];exact woken_of_again (again_running _ (.inl Ch)),fun z=>by cases z⟩
  |true=>
   obtain⟨_,_,ho⟩:=Iz rfl;rcases uD P g g' w' Ch ho with x|⟨x,y⟩
   ·exact⟨false,by simpa using x,fun z=>by cases z⟩
   ·exact⟨true,by simpa using x,fun _=>⟨rfl,y⟩⟩
 by_cases dz:i∈ds
 ·obtain⟨d1,d2,_,g',d4,d5,d6⟩:=Cd.dep i dz
  rw[hi] at d4;obtain rfl:=Option.some.inj d4;have aT:i<gs.size:=(Array.getElem?_eq_some_iff.1 hi).1;obtain⟨n,uv,hD⟩:=d5.inv
  have hm0:m=0:=by
   rcases hT with ⟨_,_,_,x⟩|⟨_,_,_,_,x⟩|⟨_,_,_,x⟩|⟨_,_,_,x⟩|⟨_,x,_⟩|⟨_,_,x,_⟩
   ·exact x
   ·exact x
   ·exact x
   ·exact x
   ·rw[x] at dz;cases dz
   ·rw[x] at dz;cases dz
  subst hm0
  have aF:∀(a':Goroutine)(w':World)(es:Array Event)(s' m':Int),stepG P false g (w.at d)=.go a' w' es→K w'→(∀e∈es,(∀x,(MemAct.ofEvent e).touch? =some x→x.kind=.atomic∧Shun x.loc)∧(MemAct.ofEvent e).low B)→u9 (Deaf T i) es→QuitsD P n (deafBehind (Deaf T i) es) a'→
   ((bl=true→m'=0)∨(mayWake P g=true∧a'.status=.running))→Ij k tm (ds.erase i) sg s' m'→jv .u64 Gp.st w' s'→jv .u32 Gp.se w' m'→∃N m' T',runNT P N (crowd gs w sl) T=(.next m',T')∧Joined P K Shun B Gp Anchor gs.size m' T':=by
   intro a' w' es s' m' eK hK fu Se hQ Rs Kl uO GV;obtain⟨bQ,f1,f2,f3,f4,f5,_,f7⟩:=Cd.CL fN dz hi eK hK (fun _ _ _ e=>by cases e) fu Se;obtain⟨CV,Ce,EU⟩:=wk a' w'
   obtain⟨N,mm,TT,hr,hj⟩:=VP (sumTo bQ.size (upd q i n)) (by rw[f2];have:=iC (q:=q) aT uv (Nat.le_refl n);omega) k _ bQ w' fN _ (upd q i n) a0 CV tm nm (ds.erase i) sg s' m' rfl rfl (by rw[f4 _ h0,Ce]) (f7 n hQ) hM (fun z=>by
    obtain⟨b1,b2⟩:=EU z;obtain⟨c1,_,c3⟩:=Iz b1;exact⟨c1,Rs.elim (fun y=>y b1) fun y=>absurd y b2,c3⟩) (Nat.le_trans List.length_erase_le h9) Kl uO GV (by rw[Deaf_other T e0 _ gr];exact aP)
   exact⟨N+1,mm,TT,by rw[next f1];exact hr,by rw[←f2];exact hj⟩
  have stay:∀(a':Goroutine)(w':World)(es:Array Event)(t':Nat)(s':Int),stepG P false g (w.at d)=.go a' w' es→K w'→(∀e∈es,(∀x,(MemAct.ofEvent e).touch? =some x→x.kind=.atomic∧Shun x.loc)∧(MemAct.ofEvent e).low B)→u9 (Deaf T i) es→DP P K Gp n t' a'→deafBehind (Deaf T i) es=dC t'→
   Ij k tm ds (upd sg i t') s' 0→jv .u64 Gp.st w' s'→jv .u32 Gp.se w' 0→∃N m' T',runNT P N (crowd gs w sl) T=(.next m',T')∧Joined P K Shun B Gp Anchor gs.size m' T':=by
   intro a' w' es t' s' eK hK fu Se cG vC Kl uO GV;obtain⟨bQ,f1,f2,f3,f4,f5,f6,_⟩:=Cd.CL fN dz hi eK hK (fun _ _ _ e=>by cases e) fu Se;obtain⟨CV,Ce,EU⟩:=wk a' w'
   obtain⟨N,mm,TT,hr,hj⟩:=VP (sumTo bQ.size (upd q i n)) (by rw[f2];have:=iC (q:=q) aT uv (Nat.le_refl n);omega) k _ bQ w' fN _ (upd q i n) a0 CV tm nm ds (upd sg i t') s' 0 rfl rfl (by rw[f4 _ h0,Ce]) (f6 n t' cG vC) hM (fun z=>by
    obtain⟨b1,_⟩:=EU z;obtain⟨c1,_,c3⟩:=Iz b1;exact⟨c1,rfl,c3⟩) h9 Kl uO GV (by rw[Deaf_other T e0 _ gr];exact aP)
   exact⟨N+1,mm,TT,by rw[next f1];exact hr,by rw[←f2];exact hj⟩
  have Q7:∀t',sg i≤2→t'≤2→Ij k tm ds (upd sg i t') s 0:=by
   intro t' h1 h2
   have up:∀Le,Le≤2→(∀x,x∈ds→sg x≤2)→∀x,x∈ds→upd sg i Le x≤2:=fun Le h hx x Cc=>by
    by_cases e:x=i
    ·subst e;rw[upd_same];exact h
    ·rw[upd_ne _ _ e];exact hx x Cc
   rcases hT with ⟨x,y,z⟩|⟨x,y,z⟩|⟨_,⟨i',x,y⟩,_⟩|⟨_,⟨i',x,y⟩,_⟩|⟨_,x,_⟩|⟨_,_,x,_⟩
   ·exact .inl ⟨x,up t' h2 y,z⟩
   ·exact .inr (.inl ⟨x,up t' h2 y,z⟩)
   ·rw[x] at dz;simp at dz;subst dz;omega
   ·rw[x] at dz;simp at dz;subst dz;omega
   ·rw[x] at dz;cases dz
   ·rw[x] at dz;cases dz
  rcases hD with ⟨_,a',oy,hn⟩|⟨ht,_,a',oy,hn⟩|⟨ht,_,a',oy,hn⟩|⟨ht,_,Kj,a1,We,cP⟩|⟨ht,_,a',oy,hn⟩|⟨ht,_,a',oy,hn⟩|⟨ht,_,hw,a',fJ,oy,hn⟩
  ·refine stay a' _ _ (sg i) s (oy _ eU) eU tX (iX tX) hn (by rw[d6];rfl) ?_ bN oM
   have:upd sg i (sg i)=sg:=by
    funext x
    by_cases e:x=i
    ·subst e;rw[upd_same]
    ·rw[upd_ne _ _ e]
   rw[this];exact hT
  ·exact stay a' _ _ 1 s (oy _ eU) eU (dF (kJ rfl J.zG)) (iX (dF rfl)) hn (by rw[d6,ht];rfl) (Q7 1 (by omega) (by omega)) bN oM
  ·exact stay a' _ _ 2 s (oy _ eU) eU (dF (kJ rfl trivial)) (iX (dF rfl)) hn (by rw[d6,ht];rfl) (Q7 2 (by omega) (by omega)) bN oM
  ·rw[ht] at d6
   have hlen:(ds.erase i).length=ds.length-1:=List.length_erase_of_mem dz;have yU:=List.length_pos_of_mem dz;have GU:u9 (Deaf T i) #[uJ Gp.st,ES Gp.st]:=mY (by rw[d6];decide) (by intro e he;simp at he;rcases he with rfl|rfl<;>simp);rcases hT with ⟨x,y,rfl,_⟩|⟨x,y,_,rfl,_⟩|⟨_,⟨i',x,y⟩,_⟩|⟨_,⟨i',x,y⟩,_⟩|⟨_,x,_⟩|⟨_,_,x,_⟩
   ·obtain⟨mm,N8⟩:∃mm,ds.length=mm+1:=⟨ds.length-1,(Nat.sub_add_cancel yU).symm⟩
    obtain⟨a',oy,hq⟩:=Kj mm 0 (by omega) (by omega) (.inl rfl);rw[N8] at bN;refine aF a' _ _ (gv mm 0) 0 (oy _ eU bN) (J.st _ _ eU) (qE (cS J.yw J.zG) (cS J.yw J.zG)) GU (by rw[d6];exact hq) (.inl fun _=>rfl) (.inl ⟨?_,fun x hx=>y x (List.mem_of_mem_erase hx),by rw[hlen,N8];rfl,rfl⟩) (kR bN _) (gw oM Gp.ne _);rcases x with ⟨x1,x2⟩|⟨j,x1,x2,x3,x4⟩
    ·exact .inl ⟨x1,by omega⟩
    ·exact .inr ⟨j,x1,x2,x3,by omega⟩
   ·by_cases h1:ds.length=1
    ·rw[h1] at bN
     obtain⟨i',dJ⟩:=List.length_eq_one_iff.1 h1;have:i'=i:=by rw[dJ] at dz;exact(List.mem_singleton.1 dz).symm
     subst this;exact stay a1 _ _ 3 (gv 0 1) (We _ eU bN) (J.st _ _ eU) (qE (cS J.yw J.zG) (cS J.yw J.zG)) GU cP (by rw[d6];rfl) (.inr (.inr (.inl ⟨x,⟨i',dJ,by rw[upd_same];exact .inl rfl⟩,rfl,rfl⟩))) (kR bN _) (gw oM Gp.ne _)
    ·obtain⟨mm,N8⟩:∃mm,ds.length=mm+1:=⟨ds.length-1,(Nat.sub_add_cancel yU).symm⟩
     obtain⟨a',oy,hq⟩:=Kj mm 1 (by omega) (by omega) (.inr (by omega));rw[N8] at bN;exact aF a' _ _ (gv mm 1) 0 (oy _ eU bN) (J.st _ _ eU) (qE (cS J.yw J.zG) (cS J.yw J.zG)) GU (by rw[d6];exact hq) (.inl fun _=>rfl) (.inr (.inl ⟨x,fun x hx=>y x (List.mem_of_mem_erase hx),by omega,by rw[hlen,N8];rfl,rfl⟩)) (kR bN _) (gw oM Gp.ne _)
   ·rw[x] at dz;simp at dz;subst dz;omega
   ·rw[x] at dz;simp at dz;subst dz;omega
   ·rw[x] at dz;cases dz
   ·rw[x] at dz;cases dz
  ·rw[ht] at d6
   rcases hT with ⟨_,y,_⟩|⟨_,y,_⟩|⟨x0,⟨i',x,y⟩,rfl,_⟩|⟨_,⟨i',x,y⟩,_⟩|⟨_,x,_⟩|⟨_,_,x,_⟩
   ·have:=y i dz;omega
   ·have:=y i dz;omega
   ·have:i'=i:=by rw[x] at dz;exact(List.mem_singleton.1 dz).symm
    subst this;exact stay a' _ _ 4 (gv 0 1) (oy _ eU bN) eU (dF (cS J.yw J.zG)) (mY (by rw[d6];decide) (by intro e he;simp at he;subst he;simp)) hn (by rw[d6];rfl) (.inr (.inr (.inl ⟨x0,⟨i',x,by rw[upd_same];exact .inr rfl⟩,rfl,rfl⟩))) bN oM
   ·rw[x] at dz;simp at dz;subst dz;omega
   ·rw[x] at dz;cases dz
   ·rw[x] at dz;cases dz
  ·rw[ht] at d6
   rcases hT with ⟨_,y,_⟩|⟨_,y,_⟩|⟨x0,⟨i',x,y⟩,rfl,_⟩|⟨_,⟨i',x,y⟩,_⟩|⟨_,x,_⟩|⟨_,_,x,_⟩
   ·have:=y i dz;omega
   ·have:=y i dz;omega
   ·have:i'=i:=by rw[x] at dz;exact(List.mem_singleton.1 dz).symm
    subst this;exact stay a' _ _ 5 (gv 0 0) (oy _ eU bN) (J.st _ _ eU) (dF (cS J.yw J.zG)) (mY (by rw[d6];decide) (by intro e he;simp at he;subst he;simp)) hn (by rw[d6];rfl) (.inr (.inr (.inr (.inl ⟨x0,⟨i',x,by rw[upd_same]⟩,rfl,rfl⟩)))) (kR bN _) (gw oM Gp.ne _)
   ·rw[x] at dz;simp at dz;subst dz;omega
   ·rw[x] at dz;cases dz
   ·rw[x] at dz;cases dz
  ·rw[ht] at d6
   rcases hT with ⟨_,y,_⟩|⟨_,y,_⟩|⟨_,⟨i',x,y⟩,_⟩|⟨x0,⟨i',x,y⟩,rfl,_⟩|⟨_,x,_⟩|⟨_,_,x,_⟩
   ·have:=y i dz;omega
   ·have:=y i dz;omega
   ·rw[x] at dz;simp at dz;subst dz;omega
   ·have:i'=i:=by rw[x] at dz;exact(List.mem_singleton.1 dz).symm
    subst this;exact aF a' _ _ (gv 0 0) 1 (oy _ eU oM) (J.se _ _ eU) (HM (kJ rfl trivial) (cS J.Qw J.Q6) (cS J.Qw J.Q6) (kJ rfl trivial)) (GS (by rw[d6];decide) _) (by rw[d6];exact hn) (.inr ⟨hw,fJ⟩) (.inr (.inr (.inr (.inr (.inl ⟨x0,by rw[x];simp,rfl,rfl⟩))))) (gw bN (fun z=>Gp.ne z.symm) _) (kR oM _)
   ·rw[x] at dz;cases dz
   ·rw[x] at dz;cases dz
 ·obtain⟨bQ,g',ops,q',sv,gU,cU,G8,C',aT⟩:=Cd.slip fN hi e0 dz rfl hg
  obtain⟨CV,Ce,EU⟩:=wk g' (w.at d);obtain⟨N,mm,TT,hr,hj⟩:=VP (sumTo bQ.size q') (by rw[cU];omega) k _ bQ (w.at d) fN _ q' a0 CV tm nm ds sg s m rfl rfl (by rw[G8 _ h0,Ce]) C' hM (fun z=>Iz (EU z).1) h9 hT bN oM (by rw[Deaf_other T e0 _ gU];exact aP);exact⟨N+1,mm,TT,by rw[next sv];exact hr,by rw[←cU];exact hj⟩
end
end Go.Proofs.YtobagnjnbmgidaaGreatDoor
