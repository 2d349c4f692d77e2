import Derived.Test.YtobagnjnbmgidabGreatDoorX30
import Derived.Conc.AtomicLaws2
import Derived.Conc.SmallLaws
import Derived.Test.YtobagnjnbmgidabGreatDoorM4
set_option linter.all false
set_option maxHeartbeats 0
set_option maxRecDepth 100000
namespace Go.Proofs.YtobagnjnbmgidabGreatDoor
open Tryz Go.Conc Go.RowKit
open Go.ConcN (sumTo upd sumTo_upd upd_ne upd_same)
variable{p:Addr}{o:Nat}{s:TypeId}{v:ay}
variable{P:aG}{u:qz}{K Q:cK}{Shun:dm}{St:Nat->Loc->Prop}{B h j c k D L E n dl t:Nat}{y:Nat->Option Seat}{Gp:qt}{Anchor:kr}{w w':aj}{a I g l:aV}{C:dS}
def jD(wc o:Nat):Array CommCase:=#[rcase wc (.agg #[]),rcase o (.agg #[])]
def lC(wc o:Nat)(Home:kr):Seat:={cases:=jD wc o,shape:=.select,home:=Home}
def aaq(wc o:Nat)(Yh g:aV):Prop:=∀D:Nat,D<2->∀Φ,CF prog true Φ->Φ Yh->Φ (Go.Conc.served g (commResult (jD wc o) .select D (.agg #[]) true))
def xz{b:Nat}(h:b≠o)(Home:kr):(lC b o Home).Wf:=by
 refine⟨λb a=>?_,λk m c z b e d=>?_⟩
 .simp only[lC,jD,rq,ak,bH,or_false]at a;grind
 .simp only[lC,jD]at e d;rcases k with _|_|k<;>rcases m with _|_|m<;>simp[rcase]at e d<;>first|rfl|omega
def l8{a:Nat}{Home:kr}(h:(lC a o Home).has c):c=a\/c=o:=by
 let⟨k,z,b⟩:=h;simp only[lC,jD]at b;rcases k with _|_|k<;>simp[rcase]at b<;>omega
def J3{Still:dm}{Home:kr}(A d o:Nat)(i:∀w,K w->w.cell? ⟨A,3,none⟩=some (.chan (some d)))(h:∀w,K w->w.cell? ⟨A,4,none⟩=some (.chan (some o)))(l:Still (.cell ⟨A,3,none⟩))(k:Still (.cell ⟨A,4,none⟩))(b:A<B)(c:aC)(j:cO)(m:∀g,aaq d o (G (c.finish (.tuple #[])) j) g->Home g)(w:aj):
 ∃n,Goes prog true (RK K) (DS Still B) (λg _=>∃a,AtIn prog true K Still B (lC d o Home) g a) n (G (Frame.enter prog 62 #[.pointer (some ⟨A,0,none⟩)] .normal) (c::j)) w:=by
 have F:=qE (P:=prog) (K:=K) (Still:=Still) (B:=B) true (lC d o Home) w;have a:EvC Still B ⟨.cell ⟨A,3,none⟩,false,false⟩:=⟨_,rfl,l,b⟩;have a:EvC Still B ⟨.cell ⟨A,4,none⟩,false,false⟩:=⟨_,rfl,k,b⟩;simp only[enter_at _ func62 rfl,ntmps62];walk_nrm;refine F.sq ?_;refine F.cF ?_;iterate 3 (refine F.aJ ?_)
 apply F.op rfl rfl δ
 .intro w b e f;have a:=i w b;simp[go_sem,a]at f;grind
 .intro w b;have a:=i w b;go_simp;rfl
 try walk_nrm
 refine F.CZ ?_;iterate 3 (refine F.aJ ?_)
 apply F.op rfl rfl δ
 .intro w b e f;have a:=h w b;simp[go_sem,a]at f;grind
 .intro w b;have a:=h w b;go_simp;rfl
 try walk_nrm
 refine F.dA ?_;refine⟨0,λa r=>⟨_,rfl,rfl,rfl,rfl,m _ ?_,#[],ψ,λw b=>?_⟩⟩
 .clear F;intro D a a F c;rw[served_fr,bQ];have b:goInt 0=.int .i64 0:=rfl;have a:goInt 1=.int .i64 1:=rfl;rcases D with _|_|D
  .simp only[commResult,jD,rcase];try walk_nrm
   simp[b];iterate 3 (refine F.aJ ?_)
   refine F.re ?_;refine F.bl ?_;refine F.ct rfl ?_;refine F.sk ?_;refine F.ib ?_;refine F.ctl (λ_=>stepG_end) ?_;refine F.g9 rfl rfl func62 (resultsC_none φ _) ?_;exact c
  .simp only[commResult,jD,rcase];try walk_nrm
   simp[a];iterate 3 (refine F.aJ ?_)
   refine F.re ?_;refine F.bl ?_;refine F.cf rfl ?_;refine F.ct rfl ?_;refine F.sk ?_;refine F.ib ?_;refine F.ctl (λ_=>stepG_end) ?_;refine F.g9 rfl rfl func62 (resultsC_none φ _) ?_;exact c
  .omega
 .rw[stepG_comm (cases:=jD d o) (blocking:=true) (shape:=.select) (w':=w) rfl rfl δ (by simp[go_sem,execOp,rcase,jD,Act.eval])];rw[listed_nil (by simp[go_sem,execOp,Act.eval])];rfl
def Ka:∃t,prog.underlying 198=some (.pointer t)/\(prog.info? t).map (λi=>decide (i.size=0))=some false:=⟨match prog.underlying 198 with|some (.pointer t)=>t|_=>0,ρ,ρ⟩
def Kc:∃t,prog.underlying 190=some (.pointer t)/\(prog.info? t).map (λi=>decide (i.size=0))=some false:=⟨match prog.underlying 190 with|some (.pointer t)=>t|_=>0,ρ,ρ⟩
def Kb:prog.underlying 194=some .unsafePointer:=ρ
def Bi{t:TypeId}(h:(prog.info? t).map (λi=>decide (i.size=0))=some false):∃i,prog.info? t=some i/\i.size≠0:=by
 simp_all
def GF{t:TypeId}(g:prog.underlying s=some (.pointer t))(f:(prog.info? t).map (λi=>decide (i.size=0))=some false)(a:w.cell? p=some v):(convert s 194 (.pointer (some p))).run prog w=.ok (.pointer (some p)) w:=by
 let⟨e,n,b,c,_⟩:=World.shape?_of_cell? a;let⟨i,d,a⟩:=Bi f;have:=Nat.not_le.2 c;simp[convert,Conv.unsafePointer,Conv.seenAt,viewAt,cellsIn,sizeOf,typeInfo,run_underlying g,run_underlying Kb,d,a,b,this,Result.andThen]
def K9{t:TypeId}(g:prog.underlying s=some (.pointer t))(f:(prog.info? t).map (λi=>decide (i.size=0))=some false)(a:w.cell? p=some v):(convert s 194 (.pointer (some p))).events prog w #[]=#[]:=by
 let⟨e,n,b,c,_⟩:=World.shape?_of_cell? a;let⟨i,d,a⟩:=Bi f;have:=Nat.not_le.2 c;simp[convert,Conv.unsafePointer,Conv.seenAt,viewAt,cellsIn,sizeOf,typeInfo,run_underlying g,run_underlying Kb,d,a,b,this,Result.evThen]
def La(a:w.cell? p=some v):(convert 198 194 (.pointer (some p))).run prog w=.ok (.pointer (some p)) w:=by
 let⟨t,c,b⟩:=Ka;exact GF c b a
def GH(a:w.cell? p=some v):(convert 198 194 (.pointer (some p))).events prog w #[]=#[]:=by
 let⟨t,c,b⟩:=Ka;exact K9 c b a
def GI(a:w.cell? p=some v):(convert 190 194 (.pointer (some p))).run prog w=.ok (.pointer (some p)) w:=by
 let⟨t,c,b⟩:=Kc;exact GF c b a
def Ac(a:w.cell? p=some v):(convert 190 194 (.pointer (some p))).events prog w #[]=#[]:=by
 let⟨t,c,b⟩:=Kc;exact K9 c b a
def PJ:bits .and .u64 4294967296 2147483648=0:=δ
def xR:bits .and .u64 4294967296 2147483647=0:=δ
def Yl:bits .and .u64 0 2147483648=0:=δ
def gD:bits .and .u64 0 2147483647=0:=δ
def tI:bits .and .u64 1 2147483648=0:=δ
def sH:bits .and .u64 1 2147483647=1:=δ
def vN:bits .and .u64 4294967297 2147483648=0:=δ
def dG:bits .and .u64 4294967297 2147483647=1:=δ
def HL{p:Nat->Nat->Prop}(a:∀m n b,n<=b->p m n->p m b):∀(k:Nat),(∀m,m<k->∃n,p m n)->∃N,∀m,m<k->p m N
 |0,_=>⟨0,λm h=>absurd h ω⟩
 |k+1,h=>by
  let⟨N,d⟩:=HL a k λm b=>h m ω;let⟨n,c⟩:=h k ω;refine⟨N+n,λm b=>?_⟩;by_cases e:m=k
  .subst e;exact a _ _ _ ω c
  .exact a _ _ _ ω (d m ω)
def fL{P:aG}:∀{n d:Nat}{g:aV},QuitsD P n d g->∀m,n<=m->QuitsD P m d g
 |0,d,g,h,m,a=>by cases m with|zero=>exact h|succ m=>exact .inl h
 |n+1,d,g,h,m,a=>by
  obtain⟨m,rfl⟩:∃j,m=j+1:=⟨m-1,ω⟩;rcases h with h|⟨a,l,C,d,c,b⟩
  .exact .inl h
  .exact .inr ⟨a,l,C,d,c,fL b m ω⟩
theorem fP.at'(c:∀w d,Q w->Q (w.at d))(d:Nat)(H:fP P u K Q Shun St y Gp L E h n dl g w):fP P u K Q Shun St y Gp L E h n dl g (w.at d):=
 λk j T q a ds b i h g f e=>H k j T q a ds b i h g f (c (w.at d) w.drawn e)
theorem fP.mark(G:GK K Shun Gp)(c:E<=9999)(i:∀w d,Q w->Q (w.at d))(j:a.status=.running)(b:∀w,stepG P (h==0) a w=.go I w C)(f:∀e∈C,wE Shun (nG St (λg=>(y g).isSome)) w.heap.size h e)(e:fP P u K Q Shun St y Gp L E h n (deafBehind dl C) I w):fP P u K Q Shun St y Gp L E h n dl a w:=
 fP.go G c j i λd c a=>⟨I,w.at d,C,λm=>b _,c,a,λ_ _ _ _=>rfl,az _,f,e.at' i d⟩
def sC:∀(n m t:Nat)(g:aV),n<=m->DP P K Gp n t g->DP P K Gp m t g
 |0,_,_,_,_,h=>h.elim
 |n+1,0,_,_,h,_=>absurd h ω
 |n+1,m+1,t,g,h,x=>by
  rcases x with ⟨a,l,b,c⟩|⟨a,b,l,c,d⟩|⟨a,b,l,c,d⟩|⟨a,b,e,l,c,d⟩|⟨a,b,l,c,d⟩|⟨a,b,l,c,d⟩|⟨a,b,c,l,d,e,f⟩
  .exact .inl ⟨a,l,b,sC n m _ _ ω c⟩
  .exact .inr (.inl ⟨a,b,l,c,sC n m _ _ ω d⟩)
  .exact .inr (.inr (.inl ⟨a,b,l,c,sC n m _ _ ω d⟩))
  .exact .inr (.inr (.inr (.inl ⟨a,b,λi x o k j=>by let⟨p,h,g⟩:=e i x o k j;exact⟨p,h,fL g m ω⟩,l,c,sC n m _ _ ω d⟩)))
  .exact .inr (.inr (.inr (.inr (.inl ⟨a,b,l,c,sC n m _ _ ω d⟩))))
  .exact .inr (.inr (.inr (.inr (.inr (.inl ⟨a,b,l,c,sC n m _ _ ω d⟩)))))
  .exact .inr (.inr (.inr (.inr (.inr (.inr ⟨a,b,c,l,d,e,fL f m ω⟩)))))
def rN(t:Nat):QF P false K (λ_=>False) (λg=>∃n,DP P K Gp n t g):=
 ⟨λg l a h ⟨n,b⟩=>⟨n+1,.inl ⟨a,l,λw a=>by let⟨C,d,c⟩:=h w a;rw[d,TU.2 λe a=>c e a],b⟩⟩⟩
def NZ(a:g.status=.running)(h:∀w,K w->stepG P false g w=.go l w #[uD (.releaseMerge Gp.st)])(b:∃n,DP P K Gp n 1 l):∃n,DP P K Gp n 0 g:=by let⟨n,x⟩:=b;exact⟨n+1,.inr (.inl ⟨rfl,a,l,h,x⟩)⟩
def Aa(a:g.status=.running)(h:∀w,K w->stepG P false g w=.go l w #[uD .disable])(b:∃n,DP P K Gp n 2 l):∃n,DP P K Gp n 1 g:=by let⟨n,x⟩:=b;exact⟨n+1,.inr (.inr (.inl ⟨rfl,a,l,h,x⟩))⟩
def N1(k:g.status=.running)(h:∀m x:Nat,m<9999->x<2->(x=0\/0<m)->∃l,(∀w,K w->ji .u64 Gp.st w (gv (m+1) x)->stepG P false g w=.go l (w.setCell Gp.st (.int .u64 (gv m x))) #[tF Gp.st,Dt Gp.st])/\∃n,QuitsD P n 1 l)(j:∃l,(∀w,K w->ji .u64 Gp.st w (gv 1 1)->stepG P false g w=.go l (w.setCell Gp.st (.int .u64 (gv 0 1))) #[tF Gp.st,Dt Gp.st])/\∃n,DP P K Gp n 3 l):∃n,DP P K Gp n 2 g:=by
 let⟨N,f⟩:=HL (p:=λm n=>∀x:Nat,x<2->(x=0\/0<m)->∃l,(∀w,K w->ji .u64 Gp.st w (gv (m+1) x)->stepG P false g w=.go l (w.setCell Gp.st (.int .u64 (gv m x))) #[tF Gp.st,Dt Gp.st])/\QuitsD P n 1 l) (λm n c e d x j i=>by
  let⟨l,b,a⟩:=d x j i;exact⟨l,b,fL a c e⟩) 9999 λm o=>by
  let⟨N,f⟩:=HL (p:=λx n=>(x=0\/0<m)->∃l,(∀w,K w->ji .u64 Gp.st w (gv (m+1) x)->stepG P false g w=.go l (w.setCell Gp.st (.int .u64 (gv m x))) #[tF Gp.st,Dt Gp.st])/\QuitsD P n 1 l) (λx n c e d i=>by
   let⟨l,b,a⟩:=d i;exact⟨l,b,fL a c e⟩) 2 λx c=>by
   by_cases d:x=0\/0<m
   .let⟨l,b,n,a⟩:=h m x o c d;exact⟨n,λ_=>⟨l,b,a⟩⟩
   simp_all
  exact⟨N,λx c=>f x c⟩
 let⟨l,b,n,a⟩:=j;refine⟨N+n+1,.inr (.inr (.inr (.inl ⟨rfl,k,λm x g e d=>?_,l,b,sC n _ _ _ ω a⟩)))⟩;let⟨c,b,a⟩:=f m g x e d;exact⟨c,b,fL a _ ω⟩
def Jq(a:g.status=.running)(h:∀w,K w->ji .u64 Gp.st w (gv 0 1)->stepG P false g w=.go l w #[tF Gp.st])(b:∃n,DP P K Gp n 4 l):∃n,DP P K Gp n 3 g:=by let⟨n,x⟩:=b;exact⟨n+1,.inr (.inr (.inr (.inr (.inl ⟨rfl,a,l,h,x⟩))))⟩
def GA(a:g.status=.running)(h:∀w,K w->ji .u64 Gp.st w (gv 0 1)->stepG P false g w=.go l (w.setCell Gp.st (.int .u64 (gv 0 0))) #[Dt Gp.st])(b:∃n,DP P K Gp n 5 l):∃n,DP P K Gp n 4 g:=by let⟨n,x⟩:=b;exact⟨n+1,.inr (.inr (.inr (.inr (.inr (.inl ⟨rfl,a,l,h,x⟩)))))⟩
def Dg(c:g.status=.running)(b:mayWake P g=true)(a:l.status=.running)(h:∀w,K w->ji .u32 Gp.se w 0->stepG P false g w=.go l (w.setCell Gp.se (.int .u32 1)) (semEvents Gp.se))(d:∃n,QuitsD P n 1 l):∃n,DP P K Gp n 5 g:=by let⟨n,x⟩:=d;exact⟨n+1,.inr (.inr (.inr (.inr (.inr (.inr ⟨rfl,c,b,l,a,h,x⟩)))))⟩
def iW(k t:Nat):QF P true K (λe=>wE Shun (λ_=>False) B 0 e/\e.loc≠.mark .disable/\e.loc≠.mark .enable) (λg=>∃n,WS P K Shun B Gp Anchor k n t g):=
 ⟨λg l a h ⟨n,b⟩=>⟨n+1,WS.one (.inl ⟨a,l,h,b⟩)⟩⟩
def zh(a:g.status=.running)(h:∀w,K w->stepG P true g w=.go l w #[uD .disable])(b:∃n,WS P K Shun B Gp Anchor k n 1 l):∃n,WS P K Shun B Gp Anchor k n 0 g:=by let⟨n,x⟩:=b;exact⟨n+1,WS.one (.inr (.inl ⟨rfl,a,l,h,x⟩))⟩
def HF(e:g.status=.running)(h:∀m,0<m->m<=k->∃l,(∀w,K w->ji .u64 Gp.st w (gv m 0)->stepG P true g w=.go l w #[tF Gp.st])/\∃n,WS P K Shun B Gp Anchor k n (100+m) l)(c:∃l,(∀w,K w->ji .u64 Gp.st w (gv 0 0)->stepG P true g w=.go l w #[tF Gp.st])/\∃n,WS P K Shun B Gp Anchor k n 6 l):∃n,WS P K Shun B Gp Anchor k n 1 g:=by
 let⟨N,i⟩:=HL (p:=λm n=>0<m->∃l,(∀w,K w->ji .u64 Gp.st w (gv m 0)->stepG P true g w=.go l w #[tF Gp.st])/\WS P K Shun B Gp Anchor k n (100+m) l) (λm n d g f c=>by
  let⟨l,b,a⟩:=f c;exact⟨l,b,a.up d g⟩) (k+1) λm d=>by
  by_cases d:0<m
  .let⟨l,b,n,a⟩:=h m d ω;exact⟨n,λ_=>⟨l,b,a⟩⟩
  simp_all
 let⟨d,b,n,a⟩:=c;refine⟨N+n+1,WS.one (.inr (.inr (.inl ⟨rfl,e,λm e c=>?_,d,b,a.up _ ω⟩)))⟩;let⟨c,b,a⟩:=i m ω e;exact⟨c,b,a.up _ ω⟩
def Ee(a:g.status=.running)(h:∀w,K w->ji .u64 Gp.st w (gv 0 0)->stepG P true g w=.go l w #[tF Gp.st])(b:∃n,WS P K Shun B Gp Anchor k n 6 l):∃n,WS P K Shun B Gp Anchor k n 5 g:=by let⟨n,x⟩:=b;exact⟨n+1,WS.one (.inr (.inr (.inr (.inl ⟨rfl,a,l,h,x⟩))))⟩
def HE{m:Nat}(c:0<m)(mk:m<=k)(d:g.status=.running)(f:∀w,K w->ji .u64 Gp.st w (gv m 0)->stepG P true g w=.go l (w.setCell Gp.st (.int .u64 (gv m 1))) #[tF Gp.st,Dt Gp.st])(a:∃n,WS P K Shun B Gp Anchor k n 3 l)(e:∀b,b<m->∃l,(∀w,K w->ji .u64 Gp.st w (gv b 0)->stepG P true g w=.go l w #[tF Gp.st])/\∃b n,k=b+1/\WS P K Shun B Gp Anchor b n 1 l):∃n,WS P K Shun B Gp Anchor k n (100+m) g:=by
 let⟨n,x⟩:=a;exact⟨n+1,WS.one (.inr (.inr (.inr (.inr (.inl ⟨m,c,mk,rfl,d,⟨l,f,x⟩,e⟩)))))⟩
def Ed(a:g.status=.running)(h:∀w,K w->stepG P true g w=.go l w #[uD (.write Gp.se)])(b:∃n,WS P K Shun B Gp Anchor k n 4 l):∃n,WS P K Shun B Gp Anchor k n 3 g:=by let⟨n,x⟩:=b;exact⟨n+1,WS.one (.inr (.inr (.inr (.inr (.inr (.inl ⟨rfl,a,l,h,x⟩))))))⟩
def LP(a:g.status=.running)(b:g.offers=none)(d:∀w,K w->ji .u32 Gp.se w 1->stepG P true g w=.go l (w.setCell Gp.se (.int .u32 0)) (semEvents Gp.se))(e:∀w,K w->ji .u32 Gp.se w 0->stepG P true g w=.go {g with status:=.blocked} w #[])(c:∃n,WS P K Shun B Gp Anchor k n 5 l):∃n,WS P K Shun B Gp Anchor k n 4 g:=by
 let⟨n,x⟩:=c;exact⟨n+1,WS.one (.inr (.inr (.inr (.inr (.inr (.inr (.inl ⟨rfl,a,b,l,d,e,x⟩)))))))⟩
def ur(a:g.status=.running)(h:∀w,K w->stepG P true g w=.go l w #[uD .enable])(b:∃n,WS P K Shun B Gp Anchor k n 7 l):∃n,WS P K Shun B Gp Anchor k n 6 g:=by let⟨n,x⟩:=b;exact⟨n+1,WS.one (.inr (.inr (.inr (.inr (.inr (.inr (.inr (.inl ⟨rfl,a,l,h,x⟩))))))))⟩
def rz(a:g.status=.running)(h:∀w,K w->stepG P true g w=.go l w #[uD (.acquire Gp.st)])(b:∃n,WS P K Shun B Gp Anchor k n 8 l):∃n,WS P K Shun B Gp Anchor k n 7 g:=by let⟨n,x⟩:=b;exact⟨n+1,WS.one (.inr (.inr (.inr (.inr (.inr (.inr (.inr (.inr ⟨rfl,a,l,h,x⟩))))))))⟩
def vG(a:Nat)(h:a<18446744073709551616):IntKind.u64.wrap (a:Int)=a:=by
 simp only[IntKind.wrap,IntKind.bits,IntKind.signed,Bool.false_and,sP,if_false];omega
def NI(m x:Nat)(a:m<9999)(a:x<2):IntKind.u64.wrap (gv (m+1) x+18446744069414584320)=gv m x:=by
 unfold gv;simp[IntKind.wrap,IntKind.bits,IntKind.signed];omega
def NH(m:Nat)(a:m<9999):IntKind.u64.wrap (gv m 0+4294967296)=gv (m+1) 0:=by
 have e:gv m 0+4294967296=gv (m+1) 0:=by unfold gv;omega
 rw[e];exact vG _ ω
def NG(m:Nat)(a:m<10000):IntKind.u64.wrap (gv m 0+1)=gv m 1:=by
 have e:gv m 0+1=gv m 1:=φ
 rw[e];exact vG _ ω
def AX(a b:Nat)(c:a<18446744073709551616)(d:b<18446744073709551616):bits .and .u64 (a:Int) (b:Int)=((a&&&b:Nat):Int):=by
 have h:a&&&b<18446744073709551616:=Nat.lt_of_le_of_lt Nat.and_le_left c;have e:(BitVec.ofInt 64 (a:Int)&&&BitVec.ofInt 64 (b:Int)).toNat=a&&&b:=by
  grind
 show IntKind.u64.wrap (((BitVec.ofInt 64 (a:Int)&&&BitVec.ofInt 64 (b:Int)).toNat:Nat):Int)=_;rw[e];exact vG _ h
def YL(m x:Nat)(a:m<10000)(a:x<2):bits .and .u64 (gv m x) 2147483648=0/\bits .and .u64 (gv m x) 2147483647=x:=by
 unfold gv;refine⟨(AX _ 2147483648 ω δ).trans ?_,(AX _ 2147483647 ω δ).trans ?_⟩
 .rw[show(2147483648:Nat)=2^31 by decide];have:(m*4294967296+x)&&&2^31=0:=by
   apply Nat.eq_of_testBit_eq;intro i;rw[Nat.testBit_and,Nat.testBit_two_pow,Nat.zero_testBit];grind
  omega
 .rw[show(2147483647:Nat)=2^31-1 by decide,Nat.and_two_pow_sub_one_eq_mod];omega
def F6(m x:Nat)(a:m<10000)(a:x<2):IntKind.i32.wrap (gv m x / 4294967296)=(m:Int):=by
 unfold gv;simp[IntKind.wrap,IntKind.bits,IntKind.signed];omega
end Go.Proofs.YtobagnjnbmgidabGreatDoor
