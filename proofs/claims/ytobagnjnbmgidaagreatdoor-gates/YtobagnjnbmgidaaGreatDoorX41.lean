import Derived.Test.YtobagnjnbmgidaaGreatDoorX30
import Derived.Conc.AtomicLaws2
import Derived.Conc.SmallLaws
import Derived.Test.YtobagnjnbmgidaaGreatDoorM4
set_option linter.all false
set_option maxHeartbeats 0
set_option maxRecDepth 100000
namespace Go.Proofs.YtobagnjnbmgidaaGreatDoor
open Tryz Go.Conc Go.RowKit
open Go.ConcN (sumTo upd sumTo_upd upd_ne upd_same)
variable{p:Addr}{ec wc:Nat}{s:TypeId}{v:ay}
variable{P:aI}{Post:qG}{K Q:cF}{Shun:dr}{St:Nat->Loc->Prop}{B h j c k kk L nb n dl t:Nat}{Inb:Nat->Option Seat}{Gp:qE}{Anchor:kr}{w w':aj}{a a' g g':aW}{es:dL}
def jD(wc ec:Nat):Array CommCase:=#[rcase wc (.agg #[]),rcase ec (.agg #[])]
def lM(wc ec:Nat)(Home:kr):Seat:={cases:=jD wc ec,shape:=.select,home:=Home}
def UK(wc ec:Nat)(tgt g:aW):Prop:=∀kk:Nat,kk<2->∀Φ,CF prog true Φ->Φ tgt->Φ (Go.Conc.served g (commResult (jD wc ec) .select kk (.agg #[]) true))
theorem xO(h:wc≠ec)(Home:kr):(lM wc ec Home).Wf:=by
 refine⟨λcc b=>?_,λk m c z z' e d=>?_⟩
 .simp only[lM,jD,rK,ak,bB,or_false]at b
  rcases b with rfl|rfl
  .exact⟨_,_,rfl⟩
  .exact⟨_,_,rfl⟩
 .simp only[lM,jD]at e d
  rcases k with _|_|k<;>rcases m with _|_|m<;>simp[rcase]at e d<;>first|rfl|omega
theorem mh{Home:kr}(h:(lM wc ec Home).has c):c=wc\/c=ec:=by
 obtain⟨k,z,hk⟩:=h;simp only[lM,jD]at hk;rcases k with _|_|k<;>simp[rcase]at hk<;>omega
theorem K5{Still:dr}{Home:kr}(A wc ec:Nat)(y:∀w,K w->w.cell? ⟨A,3,none⟩=some (.chan (some wc)))(x:∀w,K w->w.cell? ⟨A,4,none⟩=some (.chan (some ec)))(C:Still (.cell ⟨A,3,none⟩))(z:Still (.cell ⟨A,4,none⟩))(q:A<B)(c:aE)(cs:cW)(E:∀g,UK wc ec (G (c.finish (.tuple #[])) cs) g->Home g)(w:aj):
 ∃n,Goes prog true (RK K) (DS Still B) (λg _=>∃i,AtIn prog true K Still B (lM wc ec Home) g i) n (G (Frame.enter prog 63 #[.pointer (some ⟨A,0,none⟩)] .normal) (c::cs)) w:=by
 have F:=qL (P:=prog) (K:=K) (Still:=Still) (B:=B) true (lM wc ec Home) w;have I:EvC Still B ⟨.cell ⟨A,3,none⟩,false,false⟩:=⟨_,rfl,C,q⟩;have H:EvC Still B ⟨.cell ⟨A,4,none⟩,false,false⟩:=⟨_,rfl,z,q⟩;rw[enter_at _ func63 rfl];simp only[ntmps63,oP,Nat.reduceAdd,Nat.reduceSub];refine F.sq ?_;refine F.cw ?_;iterate 3 (refine F.aF ?_;try walk_nrm)
 apply F.op rfl rfl (by decide)
 .intro w d e f
  have b:=y w d;simp[go_sem,b]at f;subst f;exact I
 .intro w d
  have b:=y w d;go_simp
  first|exact⟨rfl,rfl⟩|exact rfl
 try walk_nrm
 refine F.D3 ?_;iterate 3 (refine F.aF ?_;try walk_nrm)
 apply F.op rfl rfl (by decide)
 .intro w d e f
  have b:=x w d;simp[go_sem,b]at f;subst f;exact H
 .intro w d
  have b:=x w d;go_simp
  first|exact⟨rfl,rfl⟩|exact rfl
 try walk_nrm
 refine F.dh ?_;refine⟨0,λo r=>⟨_,rfl,rfl,rfl,rfl,E _ ?_,#[],by simp,λw d=>?_⟩⟩
 .clear F
  intro kk D J F u;rw[served_fr,bO];have m:goInt 0=.int .i64 0:=rfl;have l:goInt 1=.int .i64 1:=rfl;rcases kk with _|_|kk
  .simp only[commResult,jD,rcase]
   try walk_nrm
   simp[m];iterate 3 (refine F.aF ?_;try walk_nrm)
   refine F.re ?_;refine F.bl ?_;refine F.ct rfl ?_;refine F.sk ?_;refine F.ib ?_;refine F.ctl (λ_=>stepG_end) ?_;refine F.bJ rfl rfl func63 (resultsC_none (by rfl) _) ?_;exact u
  .simp only[commResult,jD,rcase]
   try walk_nrm
   simp[l];iterate 3 (refine F.aF ?_;try walk_nrm)
   refine F.re ?_;refine F.bl ?_;refine F.cf rfl ?_;refine F.ct rfl ?_;refine F.sk ?_;refine F.ib ?_;refine F.ctl (λ_=>stepG_end) ?_;refine F.bJ rfl rfl func63 (resultsC_none (by rfl) _) ?_;exact u
  .omega
 .rw[stepG_comm (cases:=jD wc ec) (blocking:=true) (shape:=.select) (w':=w) rfl rfl (by decide) (by simp[go_sem,execOp,rcase,jD,Act.eval])]
  rw[listed_nil (by simp[go_sem,execOp,Act.eval])]
  rfl
theorem K9:∃t,prog.underlying 182=some (.pointer t)/\(prog.info? t).map (λi=>decide (i.size=0))=some false:=⟨match prog.underlying 182 with|some (.pointer t)=>t|_=>0,by kernel_rfl,by kernel_rfl⟩
theorem Lb:∃t,prog.underlying 174=some (.pointer t)/\(prog.info? t).map (λi=>decide (i.size=0))=some false:=⟨match prog.underlying 174 with|some (.pointer t)=>t|_=>0,by kernel_rfl,by kernel_rfl⟩
theorem La:prog.underlying 178=some .unsafePointer:=by kernel_rfl
theorem B9{t:TypeId}(h:(prog.info? t).map (λi=>decide (i.size=0))=some false):∃i,prog.info? t=some i/\i.size≠0:=by
 cases b:prog.info? t with
 |none=>rw[b]at h;cases h
 |some i=>rw[b]at h;exact⟨i,rfl,by simpa using h⟩
theorem HI{t:TypeId}(m:prog.underlying s=some (.pointer t))(l:(prog.info? t).map (λi=>decide (i.size=0))=some false)(hc:w.cell? p=some v):(convert s 178 (.pointer (some p))).run prog w=.ok (.pointer (some p)) w:=by
 obtain⟨e,n,d,hl,_⟩:=World.shape?_of_cell? hc;obtain⟨i,f,b⟩:=B9 l;have:=Nat.not_le.2 hl;simp[convert,Conv.unsafePointer,Conv.seenAt,viewAt,cellsIn,sizeOf,typeInfo,run_underlying m,run_underlying La,f,b,d,this,Result.andThen]
theorem Mk{t:TypeId}(m:prog.underlying s=some (.pointer t))(l:(prog.info? t).map (λi=>decide (i.size=0))=some false)(hc:w.cell? p=some v):(convert s 178 (.pointer (some p))).events prog w #[]=#[]:=by
 obtain⟨e,n,d,hl,_⟩:=World.shape?_of_cell? hc;obtain⟨i,f,b⟩:=B9 l;have:=Nat.not_le.2 hl;simp[convert,Conv.unsafePointer,Conv.seenAt,viewAt,cellsIn,sizeOf,typeInfo,run_underlying m,run_underlying La,f,b,d,this,Result.evThen]
theorem Ml(hc:w.cell? p=some v):(convert 182 178 (.pointer (some p))).run prog w=.ok (.pointer (some p)) w:=by
 obtain⟨t,d,b⟩:=K9;exact HI d b hc
theorem HJ(hc:w.cell? p=some v):(convert 182 178 (.pointer (some p))).events prog w #[]=#[]:=by
 obtain⟨t,d,b⟩:=K9;exact Mk d b hc
theorem HK(hc:w.cell? p=some v):(convert 174 178 (.pointer (some p))).run prog w=.ok (.pointer (some p)) w:=by
 obtain⟨t,d,b⟩:=Lb;exact HI d b hc
theorem AU(hc:w.cell? p=some v):(convert 174 178 (.pointer (some p))).events prog w #[]=#[]:=by
 obtain⟨t,d,b⟩:=Lb;exact Mk d b hc
theorem RB:bits .and .u64 4294967296 2147483648=0:=by decide
theorem yj:bits .and .u64 4294967296 2147483647=0:=by decide
theorem jZ:bits .and .u64 0 2147483648=0:=by decide
theorem gl:bits .and .u64 0 2147483647=0:=by decide
theorem tV:bits .and .u64 1 2147483648=0:=by decide
theorem qz:bits .and .u64 1 2147483647=1:=by decide
theorem vU:bits .and .u64 4294967297 2147483648=0:=by decide
theorem dB:bits .and .u64 4294967297 2147483647=1:=by decide
theorem IG{p:Nat->Nat->Prop}(b:∀m n d,n<=d->p m n->p m d):∀(k:Nat),(∀m,m<k->∃n,p m n)->∃N,∀m,m<k->p m N
 |0,_=>⟨0,λm h=>absurd h (by omega)⟩
 |k+1,h=>by
  obtain⟨N,i⟩:=IG b k λm hk=>h m (by omega)
  obtain⟨n,f⟩:=h k (by omega);refine⟨N+n,λm hk=>?_⟩
  by_cases e:m=k
  .subst e;exact b _ _ _ (by omega) f
  .exact b _ _ _ (by omega) (i m (by omega))
theorem fC{P:aI}:∀{n d:Nat}{g:aW},QuitsD P n d g->∀m,n<=m->QuitsD P m d g
 |0,d,g,h,m,e=>by cases m with|zero=>exact h|succ m=>exact .inl h
 |n+1,d,g,h,m,e=>by
  obtain⟨m,rfl⟩:∃j,m=j+1:=⟨m-1,by omega⟩;rcases h with h|⟨b,g',es,l,i,f⟩
  .exact .inl h
  .exact .inr ⟨b,g',es,l,i,fC f m (by omega)⟩
theorem fG.at'(e:∀w d,Q w->Q (w.at d))(d:Nat)(H:fG P Post K Q Shun St Inb Gp L nb h n dl g w):fG P Post K Q Shun St Inb Gp L nb h n dl g (w.at d):=
 λu r T q sl ds b o m l i f=>H u r T q sl ds b o m l i (e (w.at d) w.drawn f)
theorem fG.mark(G:GK K Shun Gp)(f:nb<=9)(l:∀w d,Q w->Q (w.at d))(o:a.status=.running)(b:∀w,stepG P (h==0) a w=.go a' w es)(i:∀e∈es,wQ Shun (nK St (λg=>(Inb g).isSome)) w.heap.size h e)(r:fG P Post K Q Shun St Inb Gp L nb h n (deafBehind dl es) a' w):fG P Post K Q Shun St Inb Gp L nb h n dl a w:=
 fG.go G f o l λd u q=>⟨a',w.at d,es,λm=>b _,u,q,λ_ _ _ _=>rfl,az _,i,r.at' l d⟩
theorem sO:∀(n m t:Nat)(g:aW),n<=m->DP P K Gp n t g->DP P K Gp m t g
 |0,_,_,_,_,h=>h.elim
 |n+1,0,_,_,h,_=>absurd h (by omega)
 |n+1,m+1,t,g,z,x=>by
  rcases x with ⟨a,g',b,c⟩|⟨a,b,g',c,d⟩|⟨a,b,g',c,d⟩|⟨a,b,e,g',c,d⟩|⟨a,b,g',c,d⟩|⟨a,b,g',c,d⟩|⟨a,b,c,g',d,e,f⟩
  .exact .inl ⟨a,g',b,sO n m _ _ (by omega) c⟩
  .exact .inr (.inl ⟨a,b,g',c,sO n m _ _ (by omega) d⟩)
  .exact .inr (.inr (.inl ⟨a,b,g',c,sO n m _ _ (by omega) d⟩))
  .exact .inr (.inr (.inr (.inl ⟨a,b,λo x u r q=>by obtain⟨y,l,i⟩:=e o x u r q;exact⟨y,l,fC i m (by omega)⟩,g',c,sO n m _ _ (by omega) d⟩)))
  .exact .inr (.inr (.inr (.inr (.inl ⟨a,b,g',c,sO n m _ _ (by omega) d⟩))))
  .exact .inr (.inr (.inr (.inr (.inr (.inl ⟨a,b,g',c,sO n m _ _ (by omega) d⟩)))))
  .exact .inr (.inr (.inr (.inr (.inr (.inr ⟨a,b,c,g',d,e,fC f m (by omega)⟩)))))
theorem r8(t:Nat):QF P false K (λ_=>False) (λg=>∃n,DP P K Gp n t g):=
 ⟨λg g' d h ⟨n,f⟩=>⟨n+1,.inl ⟨d,g',λw b=>by obtain⟨es,e1,e2⟩:=h w b;rw[e1,VK.2 λe i=>e2 e i],f⟩⟩⟩
theorem Pe(b:g.status=.running)(h:∀w,K w->stepG P false g w=.go g' w #[uN (.releaseMerge Gp.st)])(d:∃n,DP P K Gp n 1 g'):∃n,DP P K Gp n 0 g:=by obtain⟨n,x⟩:=d;exact⟨n+1,.inr (.inl ⟨rfl,b,g',h,x⟩)⟩
theorem AQ(b:g.status=.running)(h:∀w,K w->stepG P false g w=.go g' w #[uN .disable])(d:∃n,DP P K Gp n 2 g'):∃n,DP P K Gp n 1 g:=by obtain⟨n,x⟩:=d;exact⟨n+1,.inr (.inr (.inl ⟨rfl,b,g',h,x⟩))⟩
theorem Pf(A:g.status=.running)(h:∀m x:Nat,m<9->x<2->(x=0\/0<m)->∃g',(∀w,K w->jd .u64 Gp.st w (gv (m+1) x)->stepG P false g w=.go g' (w.setCell Gp.st (.int .u64 (gv m x))) #[tT Gp.st,Ej Gp.st])/\∃n,QuitsD P n 1 g')(r:∃g',(∀w,K w->jd .u64 Gp.st w (gv 1 1)->stepG P false g w=.go g' (w.setCell Gp.st (.int .u64 (gv 0 1))) #[tT Gp.st,Ej Gp.st])/\∃n,DP P K Gp n 3 g'):∃n,DP P K Gp n 2 g:=by
 obtain⟨N,o⟩:=IG (p:=λm n=>∀x:Nat,x<2->(x=0\/0<m)->∃g',(∀w,K w->jd .u64 Gp.st w (gv (m+1) x)->stepG P false g w=.go g' (w.setCell Gp.st (.int .u64 (gv m x))) #[tT Gp.st,Ej Gp.st])/\QuitsD P n 1 g') (λm n e l i x r q=>by
  obtain⟨g',d,b⟩:=i x r q;exact⟨g',d,fC b e l⟩) 9 λm C=>by
  obtain⟨N,o⟩:=IG (p:=λx n=>(x=0\/0<m)->∃g',(∀w,K w->jd .u64 Gp.st w (gv (m+1) x)->stepG P false g w=.go g' (w.setCell Gp.st (.int .u64 (gv m x))) #[tT Gp.st,Ej Gp.st])/\QuitsD P n 1 g') (λx n e l i q=>by
   obtain⟨g',d,b⟩:=i q;exact⟨g',d,fC b e l⟩) 2 λx f=>by
   by_cases hc:x=0\/0<m
   .obtain⟨g',d,n,b⟩:=h m x C f hc
    exact⟨n,λ_=>⟨g',d,b⟩⟩
   .exact⟨0,λz=>absurd z hc⟩
  exact⟨N,λx f=>o x f⟩
 obtain⟨g',d,n,b⟩:=r;refine⟨N+n+1,.inr (.inr (.inr (.inl ⟨rfl,A,λm x G F E=>?_,g',d,sO n _ _ _ (by omega) b⟩)))⟩;obtain⟨D,y,u⟩:=o m G x F E;exact⟨D,y,fC u _ (by omega)⟩
theorem Kl(b:g.status=.running)(h:∀w,K w->jd .u64 Gp.st w (gv 0 1)->stepG P false g w=.go g' w #[tT Gp.st])(d:∃n,DP P K Gp n 4 g'):∃n,DP P K Gp n 3 g:=by obtain⟨n,x⟩:=d;exact⟨n+1,.inr (.inr (.inr (.inr (.inl ⟨rfl,b,g',h,x⟩))))⟩
theorem HF(b:g.status=.running)(h:∀w,K w->jd .u64 Gp.st w (gv 0 1)->stepG P false g w=.go g' (w.setCell Gp.st (.int .u64 (gv 0 0))) #[Ej Gp.st])(d:∃n,DP P K Gp n 5 g'):∃n,DP P K Gp n 4 g:=by obtain⟨n,x⟩:=d;exact⟨n+1,.inr (.inr (.inr (.inr (.inr (.inl ⟨rfl,b,g',h,x⟩)))))⟩
theorem Eb(e:g.status=.running)(d:mayWake P g=true)(b:g'.status=.running)(h:∀w,K w->jd .u32 Gp.se w 0->stepG P false g w=.go g' (w.setCell Gp.se (.int .u32 1)) (semEvents Gp.se))(f:∃n,QuitsD P n 1 g'):∃n,DP P K Gp n 5 g:=by obtain⟨n,x⟩:=f;exact⟨n+1,.inr (.inr (.inr (.inr (.inr (.inr ⟨rfl,e,d,g',b,h,x⟩)))))⟩
theorem iT(k t:Nat):QF P true K (λe=>wQ Shun (λ_=>False) B 0 e/\e.loc≠.mark .disable/\e.loc≠.mark .enable) (λg=>∃n,WS P K Shun B Gp Anchor k n t g):=
 ⟨λg g' b h ⟨n,d⟩=>⟨n+1,WS.one (.inl ⟨b,g',h,d⟩)⟩⟩
theorem zI(b:g.status=.running)(h:∀w,K w->stepG P true g w=.go g' w #[uN .disable])(d:∃n,WS P K Shun B Gp Anchor k n 1 g'):∃n,WS P K Shun B Gp Anchor k n 0 g:=by obtain⟨n,x⟩:=d;exact⟨n+1,WS.one (.inr (.inl ⟨rfl,b,g',h,x⟩))⟩
theorem IC(o:g.status=.running)(h:∀m,0<m->m<=k->∃g',(∀w,K w->jd .u64 Gp.st w (gv m 0)->stepG P true g w=.go g' w #[tT Gp.st])/\∃n,WS P K Shun B Gp Anchor k n (100+m) g')(e:∃g',(∀w,K w->jd .u64 Gp.st w (gv 0 0)->stepG P true g w=.go g' w #[tT Gp.st])/\∃n,WS P K Shun B Gp Anchor k n 6 g'):∃n,WS P K Shun B Gp Anchor k n 1 g:=by
 obtain⟨N,u⟩:=IG (p:=λm n=>0<m->∃g',(∀w,K w->jd .u64 Gp.st w (gv m 0)->stepG P true g w=.go g' w #[tT Gp.st])/\WS P K Shun B Gp Anchor k n (100+m) g') (λm n l r q e=>by
  obtain⟨g',d,b⟩:=q e;exact⟨g',d,b.up l r⟩) (k+1) λm C=>by
  by_cases hc:0<m
  .obtain⟨g',d,n,b⟩:=h m hc (by omega)
   exact⟨n,λ_=>⟨g',d,b⟩⟩
  .exact⟨0,λz=>absurd z hc⟩
 obtain⟨y,d,n,b⟩:=e;refine⟨N+n+1,WS.one (.inr (.inr (.inl ⟨rfl,o,λm A D=>?_,y,d,b.up _ (by omega)⟩)))⟩;obtain⟨x,i,f⟩:=u m (by omega) A;exact⟨x,i,f.up _ (by omega)⟩
theorem EV(b:g.status=.running)(h:∀w,K w->jd .u64 Gp.st w (gv 0 0)->stepG P true g w=.go g' w #[tT Gp.st])(d:∃n,WS P K Shun B Gp Anchor k n 6 g'):∃n,WS P K Shun B Gp Anchor k n 5 g:=by obtain⟨n,x⟩:=d;exact⟨n+1,WS.one (.inr (.inr (.inr (.inl ⟨rfl,b,g',h,x⟩))))⟩
theorem IA{m:Nat}(f:0<m)(mk:m<=k)(i:g.status=.running)(o:∀w,K w->jd .u64 Gp.st w (gv m 0)->stepG P true g w=.go g' (w.setCell Gp.st (.int .u64 (gv m 1))) #[tT Gp.st,Ej Gp.st])(b:∃n,WS P K Shun B Gp Anchor k n 3 g')(l:∀d,d<m->∃g',(∀w,K w->jd .u64 Gp.st w (gv d 0)->stepG P true g w=.go g' w #[tT Gp.st])/\∃e n,k=e+1/\WS P K Shun B Gp Anchor e n 1 g'):∃n,WS P K Shun B Gp Anchor k n (100+m) g:=by
 obtain⟨n,x⟩:=b;exact⟨n+1,WS.one (.inr (.inr (.inr (.inr (.inl ⟨m,f,mk,rfl,i,⟨g',o,x⟩,l⟩)))))⟩
theorem EU(b:g.status=.running)(h:∀w,K w->stepG P true g w=.go g' w #[uN (.write Gp.se)])(d:∃n,WS P K Shun B Gp Anchor k n 4 g'):∃n,WS P K Shun B Gp Anchor k n 3 g:=by obtain⟨n,x⟩:=d;exact⟨n+1,WS.one (.inr (.inr (.inr (.inr (.inr (.inl ⟨rfl,b,g',h,x⟩))))))⟩
theorem M6(b:g.status=.running)(ho:g.offers=none)(e:∀w,K w->jd .u32 Gp.se w 1->stepG P true g w=.go g' (w.setCell Gp.se (.int .u32 0)) (semEvents Gp.se))(f:∀w,K w->jd .u32 Gp.se w 0->stepG P true g w=.go {g with status:=.blocked} w #[])(d:∃n,WS P K Shun B Gp Anchor k n 5 g'):∃n,WS P K Shun B Gp Anchor k n 4 g:=by
 obtain⟨n,x⟩:=d;exact⟨n+1,WS.one (.inr (.inr (.inr (.inr (.inr (.inr (.inl ⟨rfl,b,ho,g',e,f,x⟩)))))))⟩
theorem uC(b:g.status=.running)(h:∀w,K w->stepG P true g w=.go g' w #[uN .enable])(d:∃n,WS P K Shun B Gp Anchor k n 7 g'):∃n,WS P K Shun B Gp Anchor k n 6 g:=by obtain⟨n,x⟩:=d;exact⟨n+1,WS.one (.inr (.inr (.inr (.inr (.inr (.inr (.inr (.inl ⟨rfl,b,g',h,x⟩))))))))⟩
theorem rO(b:g.status=.running)(h:∀w,K w->stepG P true g w=.go g' w #[uN (.acquire Gp.st)])(d:∃n,WS P K Shun B Gp Anchor k n 8 g'):∃n,WS P K Shun B Gp Anchor k n 7 g:=by obtain⟨n,x⟩:=d;exact⟨n+1,WS.one (.inr (.inr (.inr (.inr (.inr (.inr (.inr (.inr ⟨rfl,b,g',h,x⟩))))))))⟩
theorem OW:∀m x:Nat,m<9->x<2->IntKind.u64.wrap (gv (m+1) x+18446744069414584320)=gv m x:=by
 have:∀m:Fin 9,∀x:Fin 2,IntKind.u64.wrap (gv (m.1+1) x.1+18446744069414584320)=gv m.1 x.1:=by decide
 exact λm x d b=>this ⟨m,d⟩ ⟨x,b⟩
theorem OV:∀m:Nat,m<9->IntKind.u64.wrap (gv m 0+4294967296)=gv (m+1) 0:=by
 have:∀m:Fin 9,IntKind.u64.wrap (gv m.1 0+4294967296)=gv (m.1+1) 0:=by decide
 exact λm b=>this ⟨m,b⟩
theorem OU:∀m:Nat,m<10->IntKind.u64.wrap (gv m 0+1)=gv m 1:=by
 have:∀m:Fin 10,IntKind.u64.wrap (gv m.1 0+1)=gv m.1 1:=by decide
 exact λm b=>this ⟨m,b⟩
theorem wu:∀m x:Nat,m<10->x<2->bits .and .u64 (gv m x) 2147483648=0/\bits .and .u64 (gv m x) 2147483647=x:=by
 have:∀m:Fin 10,∀x:Fin 2,bits .and .u64 (gv m.1 x.1) 2147483648=0/\bits .and .u64 (gv m.1 x.1) 2147483647=x.1:=by decide
 exact λm x d b=>this ⟨m,d⟩ ⟨x,b⟩
theorem G8:∀m x:Nat,m<10->x<2->IntKind.i32.wrap (gv m x / 4294967296)=(m:Int):=by
 have:∀m:Fin 10,∀x:Fin 2,IntKind.i32.wrap (gv m.1 x.1 / 4294967296)=(m.1:Int):=by decide
 exact λm x d b=>this ⟨m,d⟩ ⟨x,b⟩
end Go.Proofs.YtobagnjnbmgidaaGreatDoor
