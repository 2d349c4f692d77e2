import Derived.Test.YtobagnjnbmgidaaGreatDoorM8
import Derived.Test.YtobagnjnbmgidaaGreatDoorP13
set_option linter.all false
set_option maxHeartbeats 0
set_option maxRecDepth 100000
namespace Go.Proofs.YtobagnjnbmgidaaGreatDoor
open Go.Conc Go.RowKit Go.Extern Tryz
open Go.ConcN (sumTo sumTo_upd)
variable{z:Addr}{ats:Array TypeId}{N c U j x:Nat}{r:aH}{α:Type}{C R':aW}{en u v:ay}{q:aN}{vs:iO}
variable{P:aG}{main:Bool}{D:yW}{b:aC}{a:Act}{k:eC}{cs:cO}{w wI w' wS:aj}{ops:cm}{i B B' t κ bg Λ m X ng:Nat}{rest l I:aN}{o:Oper}{f:FuncId}{fn:Func}{K:cK}{Ev:Event->Prop}{Gp:qt}{g g' aaj Rh:aV}{O Wy:dh}{st:oJ}{es:dS}{M:aW}{Post:qz}
section
variable{J:gi}
theorem uv{r:Operand}{args:Array Operand}{first U:gd}(c:o.op=.call {callee:=.value r,args,argTypes:=ats})(d:a.eval r=.func (.func f) first U)(e:P.funcs[f]? =some fn)(b:(fn.name== "runtime.NumGoroutine")=false)(j:fn.body.isNone=false)(w:aj):
 (execOp a.eval o).run P w=.ok (.enter f (first++args.map a.eval++U)) w/\(execOp a.eval o).events P w #[]=#[]:=by
 have h:¬fn.name= "runtime.NumGoroutine" :=by simpa using b
 have g:¬fn.body=none:=by cases i:fn.body<;>simp_all
 constructor
 .unfold execOp;simp[c,resolve,Deferred.ofValue,Go.invoke,d,callFunc,e,h,g]
 .unfold execOp;simp[c,resolve,Deferred.ofValue,Go.invoke,d,callFunc,e,h,g]
theorem aB.z9(F:aB P main D J)(m:ops[i]? =some o)(l:Region.wanted o (yielded ops a.tmps)=true)(n:b.kind≠.early){r:Operand}{args:Array Operand}{first U:gd}(d:o.op=.call {callee:=.value r,args,argTypes:=ats})(e:a.eval r=.func (.func f) first U)(g:P.funcs[f]? =some fn)(c:(fn.name== "runtime.NumGoroutine")=false)(j:fn.body.isNone=false)(h:J (G (Frame.enter P f (first++args.map a.eval++U) .normal) (b.at a (.inRegion ops (i::rest)::k)::cs)) w):J (G (b.at a (.inRegion ops (i::rest)::k)) cs) w:=
 F.enter m l n (λ_=>(uv d e g c j _).1) (λ_=>(uv d e g c j _).2) h
end
def bot(P:aG):Frame:={(default:aC)with fn:=P.funcs.size,defers:=[],mode:=.panicking [goexitEntry]}
def Ag(f:Func):Code:=f.body.getD .skip
def call89(bg bf:Nat):Deferred:={target:=.fn (.func 89) #[.pointer (some ⟨bg,0,none⟩),.pointer (some ⟨bf,0,none⟩)],args:=#[]}
theorem Od(bg a:Nat)(w:aj):stepG prog false (born prog (call89 bg a)) w=.go (G ((baseD 89).at ⟨#[.pointer (some ⟨bg,0,none⟩),.pointer (some ⟨a,0,none⟩),undef,undef,undef],[]⟩ [.code (Ag f89)]) [(bot prog)]) w #[]:=by
 simp[born,call89,stepG,unwind,callDeferred,invoke,callFunc,func89,f89,seen,GStep.after,G,Frame.enter,Frame.at,baseD,bot,Ag]
theorem Il(T:gd):∃n,QuitsD prog n 0 (G {(baseD 89).at ⟨T,[]⟩ []with mode:=.returning} [(bot prog)]):=by
 refine⟨2,QuitsD.ctl (g':=G (bot prog) []) rfl (λw=>?_) ?_⟩
 .simp[G,stepG,unwind,doReturn,results,Frame.at,baseD,bot,func89,f89,seen,GStep.after,goexitEntry]
 refine QuitsD.ctl (g':={G (bot prog) []with status:=.finished}) rfl (λw=>?_) ⟨rfl,rfl⟩;rfl
theorem tK{fn:FuncId}{ad:Addr}(b:(P.funcs[fn]?).any (·.norace)=true)(c:(execOp a.eval o).events P w #[]=#[⟨.cell ad,false,false⟩]):listed P fn a o w=#[]:=by
 unfold listed;rw[c,seen_def];simp[seenStep,b]
section
variable{J:kr}{A:Act}
theorem QF.opn(F:QF P main K Ev J)(g:ops[i]? =some o)(f:Region.wanted o (yielded ops a.tmps)=true)(m:b.kind≠.early)(d:∀w,K w->listed P b.fn a o w=#[])(h:∀w,K w->uponK o a (λd w'=>w'=w/\d=A) ((execOp a.eval o).run P w))(j:J (G (b.at A (.inRegion ops rest::k)) cs)):J (G (b.at a (.inRegion ops (i::rest)::k)) cs):=by
 refine F.step _ _ rfl (λw n=>⟨#[],?_,λe l=>by simp at l⟩) j;have:=goes_oper_k (P:=P) (main:=main) (k:=k) (cs:=cs) (rest:=rest) (K:=λg' w' es=>g'=G (b.at A (.inRegion ops rest::k)) cs/\w'=w/\es=listed P b.fn a o w) g f m (λe c=>uponK_mono (λd w' x=>by obtain⟨rfl,rfl⟩:=x;exact c _ _ ⟨rfl,rfl,rfl⟩) (h w n));revert this;cases stepG P main (G (b.at a (.inRegion ops (i::rest)::k)) cs) w<;>intro this
 case go g' w' es=>simp_all
 all_goals exact this.elim
end
structure Sq(A bJ bg:Nat)(a:aV):Prop where
 run:a.status=.running
 send:∀W,stepG prog false a W=.comm a #[scase bJ (.agg #[]) (.tuple #[])] true .send W #[]
 dp:∀K:World->Prop,(∀W,K W->∃v,W.cell? ⟨A,5,none⟩=some v)->(∀W,K W->W.cell? ⟨bg,0,none⟩=some (.pointer (some ⟨A,5,none⟩)))->∃n,DP prog K (hU A) n 0 (Go.Conc.served a undef)
section
theorem mu{a:Addr}{m:Mode}(f:Fn)(x y:gd):(store a (.func f x y) m).events P w es=storedEv P w es a (.func f x y) m:=events_store P w es a _ m rfl
theorem xD(P:aG)(w:aj)(a:Addr)(m:Mode)(f:Fn)(x y:gd):(store a (.func f x y) m).run P w=stored P w a (.func f x y) m:=run_store P w a _ m rfl
def wz(f:Func):Code:=match f.body with|some (.seq (.block _ (.loop b)) _)=>b|_=>.skip
def EQ(f:Func):Code:=match f.body with|some (.seq _ r)=>r|_=>.skip
def qo(A:Nat)(cs:cO)(g:aV):Prop:=∃y1 y2 y3 y4 y5 y6 y7 y8 y9 SX SW SV SU SS SR SQ SP SO SN SM SL SK SJ SI SH SG SF SE SD SC SB SA Sz Sy:Value,
 g=G ((base 39).at ⟨#[.pointer (some ⟨A,0,none⟩),y1,y2,y3,y4,y5,y6,y7,y8,y9,SX,SW,SV,SU,SS,SR,SQ,SP,SO,SN,SM,SL,SK,SJ,SI,SH,SG,SF,SE,SD,SC,SB,SA,Sz,Sy],[]⟩ [.code (wz Tryz.f39),.inLoop (wz Tryz.f39),.inBlock 0,.code (EQ Tryz.f39)]) cs
def pJ(A:Nat)(cs:cO)(fr:aC):Prop:=∀Φ,CF prog true Φ->(∀g,qo A cs g->Φ g)->Φ (G (fr.finish (.tuple #[])) cs)
def Sd(cR:aC)(lT:cO)(fr:aC):Prop:=∀Φ,CF prog true Φ->Φ (G (cR.finish (.tuple #[])) lT)->Φ (G (fr.finish (.tuple #[])) (cR::lT))
variable{J:gi}
theorem Pw(F:aB prog true (DX O) J)(N A:Nat)(cs:cO)(t:Int)(f:FuncId)(fn:Func)(fst cp:gd)(es:jl)(en Z:ay)(g:aV)(z:aj)(KH:qo A cs g)(hf:prog.funcs[f]? =some fn)(X:(fn.name== "runtime.NumGoroutine")=false)(hb:fn.body.isNone=false)(H:fZ N z en ((t,.func (.func f) fst cp)::es))(lA:A<N)(hN:N<=z.heap.size)(i:z.cell? ⟨A,0,none⟩=some Z)(l:z.frozen? ⟨A,0,none⟩=false)(b:z.cell? ⟨A,1,none⟩=some en)(k:z.frozen? ⟨A,1,none⟩=false)(Z:O ⟨A,1,none⟩ false)(Z:O ⟨A,1,none⟩ true)(Z:O ⟨A,0,none⟩ true)(aaa:∀a:Addr,a.block∈cw en->O a false)(C:∀(a:Addr)(wr:Bool),z.heap.size<=a.block->O a wr)(hc:∀fr S Z,pJ A cs fr->Kp [] z S [⟨A,0,none⟩,⟨A,1,none⟩]->S.cell? ⟨A,0,none⟩=some (.int .i64 t)->S.frozen? ⟨A,0,none⟩=false->S.cell? ⟨A,1,none⟩=some Z->S.frozen? ⟨A,1,none⟩=false->fZ N S Z es->(∀g∈cw Z,g∈cw en)->J (G (Frame.enter prog f (fst++cp) .normal) (fr::cs)) S):J g z:=by
 obtain⟨G,G,G,G,G,G,G,G,G,G,G,G,G,G,G,G,G,G,G,G,G,G,G,G,G,G,G,G,G,G,G,G,G,G,rfl⟩:=KH;rcases H.2 with ⟨_,Nb⟩|⟨E,off,V,cur,T,hle,XQ,D,G,W⟩
 .cases Nb
 obtain⟨U,rfl⟩:∃c,V=c+1:=⟨V-1,by grind⟩;have U0:=H.1;have CO:z.cell? ⟨E,off,none⟩=some (.int .i64 t):=by have:=W 0 _ (by rfl);simp only[World.cell?,D];simp_all
 have hE1:z.cell? ⟨E,off+1,none⟩=some (.func (.func f) fst cp):=by have:=W 1 _ (by rfl);simp only[World.cell?,D];simp_all
 obtain⟨q,hq⟩:∃q,q=es.length:=⟨_,rfl⟩;have c:((t,Value.func (.func f) fst cp)::es).length=q+1:=by simp[hq]
 rw[c]at T hle;replace hq:q<=es.length/\es.length<=q:=⟨pK hq,pK hq.symm⟩;have f:∀w,(Instr.sliceAt 100 (.slice (some ⟨E,off,none⟩) (q+1) (U+1)) (some (.int .i64 1)) none none).events prog w #[]=#[]:=λw=>(l6 w (L:=1) rfl (by omega) hle).2;have XU:∀g,g∈cw en↔g=E:=λg=>by rw[bS,T];simp[Value.ownBlock];omega
 have B:∀a:Addr,a.block=E->O a false:=λa h=>aaa a ((XU _).2 h);rw[T]at b;have a:E<z.heap.size:=(cU.1 D).1;have a:E≠A:=by omega
 have a:((0:Int)<(q:Int)+1):=by omega
 have a:(1:Int)<=(q:Int)+1:=by omega
 have a:q<=U:=by omega
 clear c H T;have a:=xD;unfold wz;refine F.sq ?_;refine F.cF ?_;iterate 3 (refine F.aJ ?_)
 refine F.Ym ?_;iterate 2 (refine F.aJ ?_)
 refine F.re ?_;refine F.ct rfl ?_;refine F.sk ?_;refine F.bl ?_;refine F.cF ?_;iterate 3 (refine F.aJ ?_)
 refine F.Ym ?_;refine F.aJ ?_;refine F.ol rfl rfl rfl λd K I=>?_;go_simp;refine I _ (λe P=>?_) ?_
 .simp[go_sem, *]at P;rcases P with rfl|rfl<;>exact Rt (w:=z) (by assumption) (by first|assumption|exact B _ rfl|(apply C<;>dsimp only<;>omega))
 clear I K d;try walk_nrm
 clear CO hE1;refine F.GV ?_;generalize r:World.alloc z _=S;generalize M:(World.heap z).size=a;have a:=gH r M;replace l:=dP l i r;replace k:=dP k b r;replace i:=bN i r;replace b:=bN b r;have v:=aY (i:=0) r M rfl;have y:=cy r M 0;have s:=aY (i:=1) r M rfl;have x:=cy r M 1;try simp only[sS,sW,sV]at v s
 have L:Kp [] z z [⟨A,0,none⟩,⟨A,1,none⟩]:=Kp.refl _;replace L:=L.yT r;refine F.op rfl rfl (by decide) (λd K I=>?_);go_simp;repeat rw[setCell_at']
 refine I _ _ ⟨DX.Ud _ (by(first|assumption|exact B _ rfl|(apply C<;>dsimp only<;>omega))) (by(first|assumption|exact B _ rfl|(apply C<;>dsimp only<;>omega))) (λe Y=>?_),?_⟩
 .have P:=mem_listed Y;simp[go_sem,storedEv,fD,ig,fE,jc,gP,mu, *]at P;rcases P with rfl|rfl<;>exact .inl ⟨_,rfl,rfl,by(first|assumption|exact B _ rfl|(apply C<;>dsimp only<;>omega)),by simp only[iL,size_set];first|omega|exact au (by assumption)⟩
 clear I K d;try walk_nrm
 generalize p:World.setCell S _ _=w2;have a:=lu p;replace l:=eF l p;replace k:=eF k p;replace y:=eF y p;replace x:=eF x p;replace i:=dQ i p (by simp);replace b:=dQ b p (by simp<;>omega);replace v:=kP v p;replace s:=dQ s p (by simp<;>omega);replace L:=L.Ch p (by first|(left;simp;done)|(right;left;simp;done)|(right;right;dsimp only;omega));generalize o:World.setCell w2 _ _=w3;have a:=lu o;replace l:=eF l o;replace k:=eF k o;replace y:=eF y o;replace x:=eF x o;replace i:=dQ i o (by simp<;>omega);replace b:=dQ b o (by simp<;>omega);replace v:=dQ v o (by simp<;>omega);replace s:=kP s o;replace L:=L.Ch o (by first|(left;simp;done)|(right;left;simp;done)|(right;right;dsimp only;omega));refine F.dA ?_;iterate 4 (refine F.aJ ?_)
 refine F.Ym ?_;refine F.AZ rfl rfl (by decide) (λ_=>(by simp[go_sem, *])) (λd K I=>?_);go_simp;refine I _ ?_;clear I K d;try walk_nrm
 iterate 2 (refine F.aJ ?_)
 refine F.op rfl rfl (by decide) (λd K I=>?_);go_simp;rw[setCell_at'];refine I _ _ ⟨DX.set _ (by(first|assumption|exact B _ rfl|(apply C<;>dsimp only<;>omega))) (λe Y=>?_),?_⟩
 .have P:=mem_listed Y;simp[go_sem,storedEv,fD,ig,fE,jc,gP,mu, *]at P;subst P;exact .inl ⟨_,rfl,rfl,by(first|assumption|exact B _ rfl|(apply C<;>dsimp only<;>omega)),by simp only[iL,size_set];first|omega|exact au (by assumption)⟩
 clear I K d;try walk_nrm
 generalize n:World.setCell w3 _ _=w4;have a:=lu n;replace l:=eF l n;replace k:=eF k n;replace y:=eF y n;replace x:=eF x n;replace i:=dQ i n (by simp);replace b:=kP b n;replace v:=dQ v n (by simp<;>omega);replace s:=dQ s n (by simp<;>omega);replace L:=L.Ch n (by first|(left;simp;done)|(right;left;simp;done)|(right;right;dsimp only;omega));refine F.dA ?_;iterate 2 (refine F.aJ ?_)
 refine F.Ym ?_;iterate 2 (refine F.aJ ?_)
 refine F.op rfl rfl (by decide) (λd K I=>?_);go_simp;rw[setCell_at'];refine I _ _ ⟨DX.set _ (by(first|assumption|exact B _ rfl|(apply C<;>dsimp only<;>omega))) (λe Y=>?_),?_⟩
 .have P:=mem_listed Y;simp[go_sem,storedEv,fD,ig,fE,jc,gP,mu, *]at P;subst P;exact .inl ⟨_,rfl,rfl,by(first|assumption|exact B _ rfl|(apply C<;>dsimp only<;>omega)),by simp only[iL,size_set];first|omega|exact au (by assumption)⟩
 clear I K d;try walk_nrm
 generalize m:World.setCell w4 _ _=w5;have a:=lu m;replace l:=eF l m;replace k:=eF k m;replace y:=eF y m;replace x:=eF x m;replace i:=kP i m;replace b:=dQ b m (by simp);replace v:=dQ v m (by simp<;>omega);replace s:=dQ s m (by simp<;>omega);replace L:=L.Ch m (by first|(left;simp;done)|(right;left;simp;done)|(right;right;dsimp only;omega));refine F.CZ ?_;refine F.aJ ?_;refine F.Ym ?_;refine F.z9 rfl rfl (by decide) rfl rfl hf X hb ?_;try walk_nrm
 simp only[YX,uf,Array.append_empty];have a:∀g,g∈cw (Value.slice (if U=0 then some ⟨E,off,none⟩else some ⟨E,off+2,none⟩) q U)->g=E:=λg c=>by by_cases Q:U=0<;>simpa [cw,Value.ownBlock,Q]using c
 refine hc _ w5 _ ?_ L i l b k ?_ (λg c=>(XU g).2 (a g c))
 .clear F;intro a F a;rw[bQ];try walk_nrm
  refine F.re ?_;refine F.ib ?_;refine F.ctl (λ_=>stepG_inLoop) ?_;exact a _ ⟨_,_,_,_,_,_,_,_,_,_,_,_,_,_,_,_,_,_,_,_,_,_,_,_,_,_,_,_,_,_,_,_,_,_,rfl⟩
 .have R:=L.blk E _ _ _ (by simp) (by grind) D;refine⟨λe Y=>U0 e (aP _ Y),.inr ?_⟩;have a:q=es.length:=Nat.le_antisymm hq.1 hq.2;have Zg:∀(j:Nat)(u:ay),(flat es)[j]? =some u->cur[off+2+j]? =some u:=λj u hu=>by
   have:=W (j+2) u (by simpa [flat]using hu);grind
  by_cases Q:U=0
  .subst Q;have M9:q=0:=by omega
   have Y7:es=[]:=WC (by omega);subst Y7;exact⟨E,off,0,cur,by simp[M9],by simp,XQ,R,by omega,λj u hu=>by simp[flat]at hu⟩
  .exact⟨E,off+2,U,cur,by grind,by omega,XQ,R,by omega,Zg⟩
theorem N4(F:aB prog true (DX O) J)(A:Nat)(e:aC)(a:cO)(b:eP)(U:Nat)(g:aV)(c:aj)(d:qo A (e::a) g)(h:c.cell? ⟨A,1,none⟩=some (.slice b 0 U))(b:O ⟨A,1,none⟩ false)(f:∀b,Sd e a b->J (G (Frame.enter prog 56 #[.pointer (some ⟨A,5,none⟩)] .normal) (b::e::a)) c):J g c:=by
 obtain⟨a,a,a,a,a,a,a,a,a,a,a,a,a,a,a,a,a,a,a,a,a,a,a,a,a,a,a,a,a,a,a,a,a,a,rfl⟩:=d;unfold wz EQ;refine F.sq ?_;refine F.cF ?_;iterate 3 (refine F.aJ ?_)
 refine F.Ym ?_;iterate 2 (refine F.aJ ?_)
 refine F.re ?_;refine F.cf rfl ?_;refine F.ctl (λ_=>stepG_exit rfl) ?_;refine F.zA ?_;iterate 3 (refine F.aJ ?_)
 refine F.uO func56 ?_;refine f _ ?_;clear F;intro a F a;rw[bQ];try walk_nrm
 refine F.Du func39 ?_;exact a
end
section
def BT(A bM bJ:Nat)(cs:cO)(g:aV):Prop:=∀kk:Nat,kk<2->∀Φ,CF prog true Φ->(∀g',qo A cs g'->Φ g')->Φ (Go.Conc.served g (commResult (jD bM bJ) .select kk (.agg #[]) true))
def R6(A bM bJ:Nat)(cs:cO)(pl:oJ)(a:aV):Prop:=∀(K:cK)(Still:dm)(B:Nat)(w:aj),(∀w,K w->∀p∈pl,w.cell? p.1=some p.2)->(∀p∈pl,Still (.cell p.1)/\p.1.block<B)->
 ∃n,Goes prog true (RK K) (DS Still B) (λg _=>∃Rh,AtIn prog true K Still B (lC bM bJ (BT A bM bJ cs)) g Rh) n a w
def qd(A bM bJ:Nat):List (Addr×Value):=[(⟨A,3,none⟩,.chan (some bM)),(⟨A,4,none⟩,.chan (some bJ))]
def Ou(A bM bJ X bg bf:Nat)(cs:cO)(a:aV):Prop:=
 a.status=.running/\∃a',(∀w,stepG prog true a w=.spawn a' (born prog (call89 bg bf)) w #[])/\R6 A bM bJ cs ((⟨X,0,none⟩,.pointer (some ⟨A,0,none⟩))::qd A bM bJ) a'
def Sv(A:Nat)(cs:cO)(fr:aC)(yR:cO):Prop:=∀Φ,CF prog true Φ->(∀g,qo A cs g->Φ g)->Φ (G (fr.finish (.tuple #[])) yR)
def BU(A bM bJ aS:Nat)(z:Int)(cs:cO)(a:aV):Prop:=
 a.status=.running/\(∀w,stepG prog true a w=.comm a #[scase aS (.int .i64 z) (.tuple #[])] true .send w #[])/\R6 A bM bJ cs (qd A bM bJ) (Go.Conc.served a undef)
variable{J:gi}
theorem HT(F:aB prog true (DX O) J)(A T s t V D C:Nat)(fa:gd)(fr:aC)(cs:cO)(v:aj)(Q:pJ A cs fr)(n:v.cell? ⟨V,0,none⟩=some (.pointer (some ⟨A,0,none⟩)))(f:v.cell? ⟨D,0,none⟩=some (.pointer (some ⟨T,0,none⟩)))(d:v.cell? ⟨C,0,none⟩=some (.func (.func 37) #[] fa))(U:O ⟨V,0,none⟩ false)(U:O ⟨D,0,none⟩ false)(U:O ⟨C,0,none⟩ false)(U:∀(a:Addr)(wr:Bool),v.heap.size<=a.block->O a wr)(hc:∀c U u X bt bw bg bf,(∀H,CF prog true H->(∀a,Ou A s t X bg bf cs a->H a)->H (G (c.finish (.tuple #[])) U))->Kp [] v u->(∀b∈[X,bt,bw,bg,bf],v.heap.size<=b/\b<u.heap.size)->
 u.cell? ⟨X,0,none⟩=some (.pointer (some ⟨A,0,none⟩))->u.cell? ⟨bt,0,none⟩=some (.pointer (some ⟨T,0,none⟩))->u.cell? ⟨bw,0,none⟩=some (.func (.func 37) #[] fa)->u.cell? ⟨bg,0,none⟩=some (.pointer (some ⟨A,5,none⟩))->
 u.cell? ⟨bf,0,none⟩=some (.func (.func 62) #[] #[.pointer (some ⟨bw,0,none⟩),.pointer (some ⟨bt,0,none⟩),.pointer (some ⟨X,0,none⟩)])->J (G (Frame.enter prog 88 #[.pointer (some ⟨A,5,none⟩),.int .i64 1] .normal) (c::U)) u):
 J (G (Frame.enter prog 50 (#[]++#[.pointer (some ⟨V,0,none⟩),.pointer (some ⟨D,0,none⟩),.pointer (some ⟨C,0,none⟩)]) .normal) (fr::cs)) v:=by
 have a:=xD;have a:(#[]:gd)++#[.pointer (some ⟨V,0,none⟩),.pointer (some ⟨D,0,none⟩),.pointer (some ⟨C,0,none⟩)]=#[.pointer (some ⟨V,0,none⟩),.pointer (some ⟨D,0,none⟩),.pointer (some ⟨C,0,none⟩)]:=rfl;rw[a];clear a;simp only[enter_at _ func50 rfl,ntmps50];walk_nrm;refine F.zA ?_;refine F.Ym ?_;refine F.Ym ?_;refine F.Ym ?_;refine F.uO func51 ?_;simp only[enter_at _ func51 rfl,ntmps51];walk_nrm;refine F.cF ?_;refine F.GV ?_;generalize r:World.alloc v _=u;generalize P:(World.heap v).size=W;have a:=gH r P;replace n:=bN n r;replace f:=bN f r;replace d:=bN d r;have j:=aY (i:=0) r P rfl;have p:=cy r P 0;try simp only[sS,sW,sV]at j
 have x:Kp [] v v []:=Kp.refl _;replace x:=x.yT r;refine F.GV ?_;generalize o:World.alloc u _=w2;generalize N:(World.heap u).size=n2;have a:=gH o N;replace p:=dP p j o;replace n:=bN n o;replace f:=bN f o;replace d:=bN d o;replace j:=bN j o;have l:=aY (i:=0) o N rfl;have dh:=cy o N 0;try simp only[sS,sW,sV]at l
 replace x:=x.yT o;refine F.GV ?_;generalize m:World.alloc w2 _=w3;generalize M:(World.heap w2).size=n3;have a:=gH m M;replace p:=dP p j m;replace dh:=dP dh l m;replace n:=bN n m;replace f:=bN f m;replace d:=bN d m;replace j:=bN j m;replace l:=bN l m;have q:=aY (i:=0) m M rfl;have E:=cy m M 0;try simp only[sS,sW,sV]at q
 replace x:=x.yT m;refine F.dA ?_;refine F.Ym ?_;iterate 3 (refine F.aJ ?_)
 refine F.uO func61 ?_;simp only[enter_at _ func61 rfl,ntmps61];walk_nrm;refine F.cF ?_;refine F.GV ?_;generalize k:World.alloc w3 _=w4;generalize L:(World.heap w3).size=n4;have a:=gH k L;replace p:=dP p j k;replace dh:=dP dh l k;replace E:=dP E q k;replace n:=bN n k;replace f:=bN f k;replace d:=bN d k;replace j:=bN j k;replace l:=bN l k;replace q:=bN q k;have y:=aY (i:=0) k L rfl;have R:=cy k L 0;try simp only[sS,sW,sV]at y
 replace x:=x.yT k;refine F.GV ?_;generalize i:World.alloc w4 _=w5;generalize I:(World.heap w4).size=Z;have a:=gH i I;replace p:=dP p j i;replace dh:=dP dh l i;replace E:=dP E q i;replace R:=dP R y i;replace n:=bN n i;replace f:=bN f i;replace d:=bN d i;replace j:=bN j i;replace l:=bN l i;replace q:=bN q i;replace y:=bN y i;have S:=aY (i:=0) i I rfl;have a:=cy i I 0;try simp only[sS,sW,sV]at S
 replace x:=x.yT i;refine F.dA ?_;refine F.Ym ?_;refine F.uO func88 ?_;refine hc _ _ w5 W n2 n3 n4 Z ?_ x (by intro b hb;simp at hb;omega) j l q y S;clear F;intro H F ht;rw[bQ];try walk_nrm
 refine F.CZ ?_;refine F.oq rfl rfl rfl (by simp[go_sem]) (λw Y=>by go_simp;rfl) ?_;try walk_nrm
 refine ht _ ⟨rfl,?_⟩;apply Exists.intro;constructor
 .intro w;rw[stepG_spawn (d:=call89 n4 Z) (f:=.func 89) (c:=#[.pointer (some ⟨n4,0,none⟩),.pointer (some ⟨Z,0,none⟩)]) (w':=w) rfl rfl (by decide) (by simp[execOp,call89,resolve,Deferred.ofValue,Act.eval]) rfl];rfl
 .intro K Still B w b a;clear F;have F:=qE (P:=prog) (K:=K) (Still:=Still) (B:=B) true (lC s t (BT A s t cs)) w;have fX:∀w,K w->w.cell? ⟨W,0,none⟩=some (.pointer (some ⟨A,0,none⟩)):=λw h=>b w h (⟨W,0,none⟩,_) (by simp);have f3:∀w,K w->w.cell? ⟨A,3,none⟩=some (.chan (some s)):=λw h=>b w h (⟨A,3,none⟩,_) (by simp[qd]);have f4:∀w,K w->w.cell? ⟨A,4,none⟩=some (.chan (some t)):=λw h=>b w h (⟨A,4,none⟩,_) (by simp[qd]);have sX:=a (⟨W,0,none⟩,.pointer (some ⟨A,0,none⟩)) (by simp);have s3:=a (⟨A,3,none⟩,.chan (some s)) (by simp[qd]);have s4:=a (⟨A,4,none⟩,.chan (some t)) (by simp[qd]);try walk_nrm
  refine F.Du func61 ?_;rw[bQ];try walk_nrm
  refine F.CZ ?_;apply F.op rfl rfl (by decide)
  .intro w Y e he;have z:=fX w Y;simp[go_sem,z]at he;subst he;exact⟨_,rfl,sX.1,sX.2⟩
  .intro w Y;have z:=fX w Y;go_simp;rfl
  try walk_nrm
  refine F.uO func63 ?_;refine J3 A s t f3 f4 s3.1 s4.1 s3.2 _ _ (λg c b a H F ht=>c b a H F ?_) _;rw[bQ];try walk_nrm
  refine F.Du func51 ?_;rw[bQ];try walk_nrm
  refine F.Du func50 ?_;exact Q H F ht
theorem YZ(F:aB prog true (DX O) J)(A T x s t u:Nat)(z:Int)(S:aC)(cs P:cO)(C:aj)(Q:Sv A cs S P)(V:C.cell? ⟨x,0,none⟩=some (.pointer (some ⟨T,0,none⟩)))(V:C.cell? ⟨x,1,none⟩=some (.int .i64 z))(V:C.cell? ⟨T,3,none⟩=some (.chan (some u)))(V:O ⟨x,0,none⟩ false)(V:O ⟨x,1,none⟩ false)(V:O ⟨T,3,none⟩ false)(U:∀a,BU A s t u z cs a->J a C):
 J (G (Frame.enter prog 155 #[.pointer (some ⟨A,0,none⟩),.pointer (some ⟨x,0,none⟩)] .normal) (S::P)) C:=by
 simp only[enter_at _ func155 rfl,ntmps155];walk_nrm;refine F.sq ?_;refine F.yw (γ:=Unit) (n:=12) mixed [[],[0],[1],[2],[3],[4],[5],[],[7],[8],[9],[6,10]] rfl (by kernel_rfl) (λb g=>[(4,dB (b 0) (.pointer (some ⟨x,0,none⟩)) (undef)),(5,dB (b 1) (.pointer (some ⟨x,0,none⟩)) (undef)),(6,dB (b 2) (.pointer (some ⟨x,0,none⟩)) (undef)),(7,dB (b 3) (.pointer (some ⟨T,0,none⟩)) (undef)),(8,dB (b 4) (.pointer (some ⟨T,0,none⟩)) (undef)),(9,dB (b 5) (.pointer (some ⟨T,3,none⟩)) (undef)),(10,dB (b 6) (.chan (some u)) (undef)),(11,dB (b 7) (.pointer (some ⟨x,0,none⟩)) (undef)),(12,dB (b 8) (.pointer (some ⟨x,0,none⟩)) (undef)),(13,dB (b 9) (.pointer (some ⟨x,1,none⟩)) (undef)),(14,dB (b 10) (.int .i64 z) (undef))]) (λb g w=>(b 11=false->w=C)/\(b 11=true->(False))) (()) (by simp only[pu,Nat.reduceAdd,Nat.reduceEqDiff,reduceIte]) (⟨λ_=>rfl,λh=>by cases h⟩) (all_cons ?_ (all_cons ?_ (all_cons ?_ (all_cons ?_ (all_cons ?_ (all_cons ?_ (all_cons ?_ (all_cons ?_ (all_cons ?_ (all_cons ?_ (all_cons ?_ (all_cons ?_ (all_nil))))))))))))) ?_
 .intro b g w q e d m rest p k;obtain⟨i,o⟩:=q;replace d:b 0=false:=d;have PJ:=dy (e 1 0 rfl) d;have xR:=dy (e 2 1 rfl) PJ;have Yl:=dy (e 3 2 rfl) xR;have gD:=dy (e 4 3 rfl) Yl;have tI:=dy (e 5 4 rfl) gD;have qe:=dy (e 6 5 rfl) tI;have c:=dy (e 11 6 rfl) qe;have l:=(i c).symm;subst l;simp only[PJ,xR,Yl,gD,tI,qe,c,d,pu,Nat.reduceAdd,Nat.reduceEqDiff,reduceIte];refine F.aJ ?_;have f:=k g _ ⟨λ_=>rfl,λh=>no c h⟩;simp only[PJ,xR,Yl,gD,tI,qe,c,d,pu,Nat.reduceAdd,Nat.reduceEqDiff,reduceIte]at f;exact f
 .intro b g w q e d m rest p k;obtain⟨i,o⟩:=q;replace d:b 1=false:=d;have N:=m 0 rfl;have xR:=dy (e 2 1 rfl) d;have Yl:=dy (e 3 2 rfl) xR;have gD:=dy (e 4 3 rfl) Yl;have tI:=dy (e 5 4 rfl) gD;have qe:=dy (e 6 5 rfl) tI;have c:=dy (e 11 6 rfl) qe;have l:=(i c).symm;subst l;simp only[N,xR,Yl,gD,tI,qe,c,d,pu,Nat.reduceAdd,Nat.reduceEqDiff,reduceIte];refine F.aJ ?_;have f:=k g _ ⟨λ_=>rfl,λh=>no c h⟩;simp only[N,xR,Yl,gD,tI,qe,c,d,pu,Nat.reduceAdd,Nat.reduceEqDiff,reduceIte]at f;exact f
 .intro b g w q e d m rest p k;obtain⟨i,o⟩:=q;replace d:b 2=false:=d;have d1:=m 1 rfl;have Yl:=dy (e 3 2 rfl) d;have gD:=dy (e 4 3 rfl) Yl;have tI:=dy (e 5 4 rfl) gD;have qe:=dy (e 6 5 rfl) tI;have c:=dy (e 11 6 rfl) qe;have l:=(i c).symm;subst l;simp only[d1,Yl,gD,tI,qe,c,d,pu,Nat.reduceAdd,Nat.reduceEqDiff,reduceIte];refine F.aJ ?_;have f:=k g _ ⟨λ_=>rfl,λh=>no c h⟩;simp only[d1,Yl,gD,tI,qe,c,d,pu,Nat.reduceAdd,Nat.reduceEqDiff,reduceIte]at f;exact f
 .intro b g w q e d m rest p k;obtain⟨i,o⟩:=q;replace d:b 3=false:=d;have d2:=m 2 rfl;have gD:=dy (e 4 3 rfl) d;have tI:=dy (e 5 4 rfl) gD;have qe:=dy (e 6 5 rfl) tI;have c:=dy (e 11 6 rfl) qe;have l:=(i c).symm;subst l;simp only[d2,gD,tI,qe,c,d,pu,Nat.reduceAdd,Nat.reduceEqDiff,reduceIte];refine F.Ym ?_;have f:=k g _ ⟨λ_=>rfl,λh=>no c h⟩;simp only[d2,gD,tI,qe,c,d,pu,Nat.reduceAdd,Nat.reduceEqDiff,reduceIte]at f;exact f
 .intro b g w q e d m rest p k;obtain⟨i,o⟩:=q;replace d:b 4=false:=d;have L:=m 3 rfl;have tI:=dy (e 5 4 rfl) d;have qe:=dy (e 6 5 rfl) tI;have c:=dy (e 11 6 rfl) qe;have l:=(i c).symm;subst l;simp only[L,tI,qe,c,d,pu,Nat.reduceAdd,Nat.reduceEqDiff,reduceIte];refine F.aJ ?_;have f:=k g _ ⟨λ_=>rfl,λh=>no c h⟩;simp only[L,tI,qe,c,d,pu,Nat.reduceAdd,Nat.reduceEqDiff,reduceIte]at f;exact f
 .intro b g w q e d m rest p k;obtain⟨i,o⟩:=q;replace d:b 5=false:=d;have I:=m 4 rfl;have qe:=dy (e 6 5 rfl) d;have c:=dy (e 11 6 rfl) qe;have l:=(i c).symm;subst l;simp only[I,qe,c,d,pu,Nat.reduceAdd,Nat.reduceEqDiff,reduceIte];refine F.aJ ?_;have f:=k g _ ⟨λ_=>rfl,λh=>no c h⟩;simp only[I,qe,c,d,pu,Nat.reduceAdd,Nat.reduceEqDiff,reduceIte]at f;exact f
 .intro b g w q e d m rest p k;obtain⟨i,o⟩:=q;replace d:b 6=false:=d;have H:=m 5 rfl;have c:=dy (e 11 6 rfl) d;have l:=(i c).symm;subst l;simp only[H,c,d,pu,Nat.reduceAdd,Nat.reduceEqDiff,reduceIte];refine F.Ym ?_;have f:=k g _ ⟨λ_=>rfl,λh=>no c h⟩;simp only[H,c,d,pu,Nat.reduceAdd,Nat.reduceEqDiff,reduceIte]at f;exact f
 .intro b g w q e d m rest p k;obtain⟨i,o⟩:=q;replace d:b 7=false:=d;have dG:=dy (e 8 7 rfl) d;have r:=dy (e 9 8 rfl) dG;have n:=dy (e 10 9 rfl) r;have c:=dy (e 11 10 rfl) n;have l:=(i c).symm;subst l;simp only[dG,r,n,c,d,pu,Nat.reduceAdd,Nat.reduceEqDiff,reduceIte];refine F.aJ ?_;have f:=k g _ ⟨λ_=>rfl,λh=>no c h⟩;simp only[dG,r,n,c,d,pu,Nat.reduceAdd,Nat.reduceEqDiff,reduceIte]at f;exact f
 .intro b g w q e d m rest p k;obtain⟨i,o⟩:=q;replace d:b 8=false:=d;have M:=m 7 rfl;have r:=dy (e 9 8 rfl) d;have n:=dy (e 10 9 rfl) r;have c:=dy (e 11 10 rfl) n;have l:=(i c).symm;subst l;simp only[M,r,n,c,d,pu,Nat.reduceAdd,Nat.reduceEqDiff,reduceIte];refine F.aJ ?_;have f:=k g _ ⟨λ_=>rfl,λh=>no c h⟩;simp only[M,r,n,c,d,pu,Nat.reduceAdd,Nat.reduceEqDiff,reduceIte]at f;exact f
 .intro b g w q e d m rest p k;obtain⟨i,o⟩:=q;replace d:b 9=false:=d;have E:=m 8 rfl;have n:=dy (e 10 9 rfl) d;have c:=dy (e 11 10 rfl) n;have l:=(i c).symm;subst l;simp only[E,n,c,d,pu,Nat.reduceAdd,Nat.reduceEqDiff,reduceIte];refine F.aJ ?_;have f:=k g _ ⟨λ_=>rfl,λh=>no c h⟩;simp only[E,n,c,d,pu,Nat.reduceAdd,Nat.reduceEqDiff,reduceIte]at f;exact f
 .intro b g w q e d m rest p k;obtain⟨i,o⟩:=q;replace d:b 10=false:=d;have D:=m 9 rfl;have c:=dy (e 11 10 rfl) d;have l:=(i c).symm;subst l;simp only[D,c,d,pu,Nat.reduceAdd,Nat.reduceEqDiff,reduceIte];refine F.Ym ?_;have f:=k g _ ⟨λ_=>rfl,λh=>no c h⟩;simp only[D,c,d,pu,Nat.reduceAdd,Nat.reduceEqDiff,reduceIte]at f;exact f
 .intro b g w q e d m rest p k;obtain⟨i,o⟩:=q;replace d:b 11=false:=d;have R:=m 6 rfl;have y:=m 10 rfl;have D:=e 10 9 rfl y;have E:=e 9 8 rfl D;have M:=e 8 7 rfl E;have H:=e 6 5 rfl R;have I:=e 5 4 rfl H;have L:=e 4 3 rfl I;have d2:=e 3 2 rfl L;have d1:=e 2 1 rfl d2;have N:=e 1 0 rfl d1;have l:=(i d).symm;subst l;simp only[R,y,D,E,M,H,I,L,d2,d1,N,d,pu,Nat.reduceAdd,Nat.reduceEqDiff,reduceIte];have v:rest=[]:=p (by
   intro j c a;match j,c,a with
   |0,_,_=>exact N
   |1,_,_=>exact d1
   |2,_,_=>exact d2
   |3,_,_=>exact L
   |4,_,_=>exact I
   |5,_,_=>exact H
   |6,_,_=>exact R
   |7,_,_=>exact M
   |8,_,_=>exact E
   |9,_,_=>exact D
   |10,_,_=>exact y
   |11,_,h=>omega
   |j+12,h,_=>omega)
  subst v;refine U _ ⟨rfl,λw=>?_,λK Still B w a c=>?_⟩
  .rfl
  .clear F;have F:=qE (P:=prog) (K:=K) (Still:=Still) (B:=B) true (lC s t (BT A s t cs)) w;have f3:∀w,K w->w.cell? ⟨A,3,none⟩=some (.chan (some s)):=λw h=>a w h (⟨A,3,none⟩,_) (by simp[qd]);have f4:∀w,K w->w.cell? ⟨A,4,none⟩=some (.chan (some t)):=λw h=>a w h (⟨A,4,none⟩,_) (by simp[qd]);have a:=c (⟨A,3,none⟩,.chan (some s)) (by simp[qd]);have e:=c (⟨A,4,none⟩,.chan (some t)) (by simp[qd]);rw[served_fr,bQ];try walk_nrm
   refine F.CZ ?_;apply F.AZ rfl rfl (by decide)
   .intro w c;rfl
   .intro w c;go_simp;rfl
   try walk_nrm
   refine F.uO func63 ?_;refine J3 A s t f3 f4 a.1 e.1 a.2 _ _ (λg h c k a F e=>h c k a F ?_) _;rw[bQ];try walk_nrm
   refine F.Du func155 ?_;exact Q a F e
 intro b g w q a;obtain⟨i,o⟩:=q;simp only[a 0 (by decide),a 1 (by decide),a 2 (by decide),a 3 (by decide),a 4 (by decide),a 5 (by decide),a 6 (by decide),a 7 (by decide),a 8 (by decide),a 9 (by decide),a 10 (by decide),a 11 (by decide),pu,Nat.reduceAdd,Nat.reduceEqDiff,reduceIte];exact(o (a 11 (by decide))).elim
theorem LR(F:aB prog true (DX O) J)(A T x n p j:Nat)(u:aC)(cs:cO)(c:aj)(k:pJ A cs u)(l:c.cell? ⟨x,0,none⟩=some (.pointer (some ⟨T,0,none⟩)))(f:c.cell? ⟨x,1,none⟩=some (.int .i64 0))(g:c.frozen? ⟨x,1,none⟩=false)(o:c.cell? ⟨T,0,none⟩=some (.pointer (some ⟨A,0,none⟩)))(m:c.cell? ⟨T,3,none⟩=some (.chan (some j)))(y:O ⟨x,0,none⟩ false)(w:O ⟨x,1,none⟩ false)(z:O ⟨x,1,none⟩ true)(z:O ⟨T,0,none⟩ false)(v:O ⟨T,3,none⟩ false)(z:x≠T)(C:∀a i,BU A n p j 1 cs a->Kp [] c i [⟨x,1,none⟩]->i.cell? ⟨x,1,none⟩=some (.int .i64 1)->i.frozen? ⟨x,1,none⟩=false->J a i):
 J (G (Frame.enter prog 144 (#[.pointer (some ⟨x,0,none⟩)]++#[]) .normal) (u::cs)) c:=by
 have u:((0:Int)==0)=true:=rfl;have u:x<c.heap.size:=au f;rw[Array.append_empty];simp only[enter_at _ func144 rfl,ntmps144];walk_nrm;refine F.cF ?_;iterate 3 (refine F.aJ ?_)
 refine F.Ym ?_;refine F.aJ ?_;refine F.re ?_;refine F.ct rfl ?_;refine F.cF ?_;iterate 3 (refine F.aJ ?_)
 refine F.op rfl rfl (by decide) (λd K t=>?_);go_simp;rw[setCell_at'];refine t _ _ ⟨DX.set _ (by(first|assumption|(apply r<;>dsimp only<;>omega))) (λe B=>?_),?_⟩
 .have s:=mem_listed B;simp[go_sem,storedEv,fD,ig,fE,jc,gP,mu, *]at s;subst s;exact .inl ⟨_,rfl,rfl,by(first|assumption|(apply r<;>dsimp only<;>omega)),by simp only[iL,size_set];first|omega|exact au (by assumption)⟩
 clear t K d;try walk_nrm
 generalize b:World.setCell c _ _=i;have d:=lu b;replace g:=eF g b;replace l:=dQ l b (by simp);replace f:=kP f b;replace o:=dQ o b (by simp<;>omega);replace m:=dQ m b (by simp<;>omega);have q:Kp [] c c [⟨x,1,none⟩]:=Kp.refl _;replace q:=q.Ch b (by first|(left;simp;done)|(right;left;simp;done)|(right;right;dsimp only;omega));refine F.CZ ?_;iterate 3 (refine F.aJ ?_)
 refine F.Ym ?_;iterate 2 (refine F.aJ ?_)
 refine F.Ym ?_;refine F.aJ ?_;refine F.uO func155 ?_;refine YZ F A T x n p j 1 _ cs _ i (λc F d=>?_) l f m y w v (λa h=>C a i h q f g);rw[bQ];try walk_nrm
 refine F.Du func144 ?_;exact k c F d
theorem LZ(F:aB prog true (DX O) J)(A T x e f c k j:Nat)(z:Int)(l:aC)(cs:cO)(b:aj)(d:pJ A cs l)(g:b.cell? ⟨k,0,none⟩=some (.pointer (some ⟨A,0,none⟩)))(g:b.cell? ⟨j,0,none⟩=some (.pointer (some ⟨x,0,none⟩)))(h:b.cell? ⟨x,0,none⟩=some (.pointer (some ⟨T,0,none⟩)))(g:b.cell? ⟨x,1,none⟩=some (.int .i64 z))(i:b.cell? ⟨T,3,none⟩=some (.chan (some c)))(m:O ⟨k,0,none⟩ false)(m:O ⟨j,0,none⟩ false)(o:O ⟨x,0,none⟩ false)(n:O ⟨x,1,none⟩ false)(m:O ⟨T,3,none⟩ false)(p:∀a,BU A e f c z cs a->J a b):
 J (G (Frame.enter prog 183 (#[]++#[.pointer (some ⟨k,0,none⟩),.pointer (some ⟨j,0,none⟩)]) .normal) (l::cs)) b:=by
 rw[Array.empty_append];simp only[enter_at _ func183 rfl,ntmps183];walk_nrm;refine F.zA ?_;refine F.Ym ?_;refine F.Ym ?_;refine F.uO func155 ?_;refine YZ F A T x e f c z _ cs _ b (λa F b=>?_) h g i o n m p;rw[bQ];try walk_nrm
 refine F.Du func183 ?_;exact d a F b
theorem MS(F:aB prog true (DX O) J)(A x:Nat)(z:Int)(c:aC)(cs:cO)(b:aj)(a:pJ A cs c)(d:z≠0)(d:b.cell? ⟨x,1,none⟩=some (.int .i64 z))(d:O ⟨x,1,none⟩ false)(d:∀g,qo A cs g->J g b):
 J (G (Frame.enter prog 144 (#[.pointer (some ⟨x,0,none⟩)]++#[]) .normal) (c::cs)) b:=by
 have c:(z==0)=false:=by simp_all
 rw[Array.append_empty];simp only[enter_at _ func144 rfl,ntmps144];walk_nrm;refine F.cF ?_;iterate 3 (refine F.aJ ?_)
 refine F.Ym ?_;refine F.aJ ?_;refine F.re ?_;refine F.cf rfl ?_;refine F.sk ?_;refine F.ctl (λ_=>stepG_end) ?_;refine F.g9 rfl rfl func144 (resultsC_none (by rfl) _) ?_;exact a (λg=>J g b) (pE F b) d
end
def Sl(c:aC)(cs:cO)(g:aV):Prop:=∀(z:Int) Φ,CF prog false Φ->Φ (G (c.finish (.int .i64 z)) cs)->Φ (Go.Conc.served g (.int .i64 z))
def lB(aS:Nat)(c:aC)(cs:cO):Seat:=Seat.one aS (.int .i64 0) false (Sl c cs)
theorem l7{a b:Nat}{c:aC}(h:(lB a c cs).has b):b=a:=Seat.one_has.1 h
def Wq(T aS x:Nat)(c:aC)(cs:cO)(a:aV):Prop:=∀(K:cK)(Still:dm)(B:Nat)(w:aj),(∀w,K w->w.cell? ⟨x,0,none⟩=some (.pointer (some ⟨T,0,none⟩))/\w.cell? ⟨T,3,none⟩=some (.chan (some aS)))->(Still (.cell ⟨x,0,none⟩)/\x<B)->(Still (.cell ⟨T,3,none⟩)/\T<B)->
 ∃n,Goes prog false (RK K) (DS Still B) (λg _=>∃Rh,AtIn prog false K Still B (lB aS c cs) g Rh) n a w
def Sn(bM T aS x:Nat)(c:aC)(cs:cO)(a:aV):Prop:=
 a.status=.running/\(∀w,stepG prog false a w=.comm a #[scase bM (.agg #[]) (.tuple #[])] true .send w #[])/\Wq T aS x c cs (Go.Conc.served a undef)
theorem Gx{J:gi}(F:aB prog false (DX O) J)(A T f i x:Nat)(c:aC)(cs:cO)(g:aj)(m:g.cell? ⟨x,0,none⟩=some (.pointer (some ⟨T,0,none⟩)))(m:g.cell? ⟨T,0,none⟩=some (.pointer (some ⟨A,0,none⟩)))(m:g.cell? ⟨A,3,none⟩=some (.chan (some f)))(m:O ⟨x,0,none⟩ false)(m:O ⟨T,0,none⟩ false)(m:O ⟨A,3,none⟩ false)(m:∀a,Sn f T i x c cs a->J a g):J (G (Frame.enter prog 153 #[.pointer (some ⟨x,0,none⟩)] .normal) (c::cs)) g:=by
 simp only[enter_at _ func153 rfl,ntmps153];walk_nrm;refine F.cF ?_;refine F.aJ ?_;refine F.dA ?_;iterate 3 (refine F.aJ ?_)
 refine F.Ym ?_;iterate 2 (refine F.aJ ?_)
 refine F.Ym ?_;iterate 2 (refine F.aJ ?_)
 refine F.Ym ?_;refine F.aJ ?_;refine m _ ⟨rfl,λw=>?_,λK Still B w a k l=>?_⟩
 .rfl
 clear F;have F:=qE (P:=prog) (K:=K) (Still:=Still) (B:=B) false (lB i c cs) w;rw[served_fr,bQ];try walk_nrm
 have f0:=λw h=>(a w h).1;have f3:=λw h=>(a w h).2;refine F.dA ?_;iterate 3 (refine F.aJ ?_)
 apply F.op rfl rfl (by decide)
 .intro w d e j;have b:=f0 w d;simp[go_sem,b]at j;subst j;exact⟨_,rfl,k.1,k.2⟩
 .intro w d;have b:=f0 w d;go_simp;rfl
 try walk_nrm
 iterate 2 (refine F.aJ ?_)
 apply F.op rfl rfl (by decide)
 .intro w d e j;have b:=f3 w d;simp[go_sem,b]at j;subst j;exact⟨_,rfl,l.1,l.2⟩
 .intro w d;have b:=f3 w d;go_simp;rfl
 try walk_nrm
 refine⟨0,λa r=>⟨_,rfl,rfl,rfl,rfl,?_,#[],by simp,λw d=>?_⟩⟩
 .clear F;intro z a F a;rw[served_fr,bQ];try walk_nrm
  refine F.oq rfl rfl rfl (by simp[go_sem]) (λw d=>by go_simp;rfl) ?_;try walk_nrm
  refine F.tC func153 ?_;exact a
 rfl
theorem Kp.chan{k y:Nat}{buf:gd}{j g:Bool}(i:w.heap[c]? =some (.chan 0 #[] false k k false)):Kp [] w (w.setChan c U buf j x y g):=by
 have d:∀(a:Addr)(v:ay),w.cell? a=some v->c≠a.block:=λa v h e=>by subst e;simp[World.cell?,i]at h
 exact⟨pK (by simp[World.setChan]),λa v _ _ h=>((iR (d a v h) ..).1).trans h,λa v _ _ h=>(iR (d a v h) ..).2,λb a t f _ _ h=>by
  by_cases e:c=b
  .simp_all
  .rw[heap_setChan_ne w _ _ _ _ _ _ e];exact h⟩
theorem Cp{o:Obj}{k:Nat}:mB z v o=.chan U #[] false k k false↔o=.chan U #[] false k k false:=by
 cases o<;>simp[mB]
theorem oy{k:Nat}:(w.setCell z v).heap[c]? =some (.chan U #[] false k k false)↔w.heap[c]? =some (.chan U #[] false k k false):=by
 rw[heap_set];split
 .cases w.heap[c]? with
  |none=>simp
  |some o=>simp[Cp]
 rfl
theorem wy(b:z.spot=none):(∃u,(w.setCell z v).cell? z=some u)↔∃u,w.cell? z=some u:=by
 constructor
 .rintro ⟨u,a⟩;unfold World.cell? at a;rw[heap_set,ah rfl]at a;unfold World.cell?;cases c:w.heap[z.block]? with
  |none=>simp_all
  |some o=>
   rw[c]at a;cases o<;>simp[mB,b]at a ⊢;grind
 .rintro ⟨u,a⟩;exact⟨v,D6 _ _ _ a⟩
theorem rX{cc:aN}(g:∀p∈st,p.1≠z):KL st cc (w.setCell z v)↔KL st cc w:=by
 constructor
 .rintro ⟨f,e⟩;exact⟨λp a=>(qa _ _ _ _ (g p a).symm).symm.trans (f p a),λc d=>by obtain⟨k,b⟩:=e c d;exact⟨k,oy.1 b⟩⟩
 .rintro ⟨f,e⟩;exact⟨λp a=>(qa _ _ _ _ (g p a).symm).trans (f p a),λc d=>by obtain⟨k,b⟩:=e c d;exact⟨k,oy.2 b⟩⟩
theorem xP(a:wI.heap.size<=z.block):Old wI (w.setCell z v)↔Old wI w:=by
 constructor
 .rintro ⟨e,d,b,c,c⟩;refine⟨e,d,b,by simp_all,λk b=>?_⟩;have:=c k b;rw[heap_set,af (by omega)]at this;exact this
 .exact A5 a
theorem oO{b o:Nat}(a:o≠5)(a:o≠6):¬jq l (.cell ⟨b,o,none⟩):=fun⟨A,_,z⟩=>by simp_all
theorem oN(w:aj)(c U:Nat)(buf:gd)(b:Bool)(x y:Nat)(a:Bool):(w.setChan c U buf b x y a).heap.size=w.heap.size:=by simp[World.setChan]
def KD(wI:aj)(A:Nat)(cc:aN)(st:oJ)(w:aj):Prop:=Old wI w/\KL st cc w/\(∃v,w.cell? ⟨A,5,none⟩=some v)/\w.frozen? ⟨A,5,none⟩=false/\∃v,w.cell? ⟨A,6,none⟩=some v
def QD(A:Nat)(w:aj):Prop:=w.cell? ⟨A,6,none⟩=some (.int .u32 0)/\w.frozen? ⟨A,6,none⟩=false
section
variable{A:Nat}{cc:aN}
theorem Ko:∀w d,QD A w->QD A (w.at d):=λ_ _ h=>h
theorem P1(b:A∈l)(D:DX (cP wI.heap.size l st) w w' es)(h:KD wI A cc st w):KD wI A cc st w':=by
 have d:¬cP wI.heap.size l st ⟨A,5,none⟩ true:=λo=>o.1 ⟨A,b,.inl rfl⟩;have i:¬cP wI.heap.size l st ⟨A,6,none⟩ true:=λo=>o.1 ⟨A,b,.inr rfl⟩;obtain⟨l,k,⟨v,c⟩,j,g,b⟩:=h;obtain⟨f,e⟩:=D.cell _ d (au c);obtain⟨d,h⟩:=D.cell _ i (au b);exact⟨Za (λa o=>(o.2 rfl).1) _ _ _ D l,KA (λp a o=>(o.2 rfl).2 ⟨p,a,rfl⟩) _ _ _ D k,⟨v,f.trans c⟩,e.trans j,g,d.trans b⟩
theorem Kn(a:A∈l)(D:DX (cP wI.heap.size l st) w w' es)(h:QD A w):QD A w':=by
 have c:¬cP wI.heap.size l st ⟨A,6,none⟩ true:=λo=>o.1 ⟨A,a,.inr rfl⟩;obtain⟨b,a⟩:=D.cell _ c (au h.1);exact⟨b.trans h.1,a.trans h.2⟩
theorem mO(e:A∈l)(c:wI.heap.size<=A)(a:∀p∈st,p.1≠⟨A,5,none⟩):GK (KD wI A cc st) (jq l) (hU A):=by
 refine⟨λw d h=>h,λw v=>?_,λw h=>?_,⟨A,e,.inl rfl⟩⟩
 .show KD wI A cc st (w.setCell ⟨A,5,none⟩ v)↔_;unfold KD;rw[xP (z:=⟨A,5,none⟩) c,rX (z:=⟨A,5,none⟩) a,wy (z:=⟨A,5,none⟩) rfl,YB];rw[qa _ _ _ _ (by simp)]
 .refine⟨?_,h.2.2.1,h.2.2.2.1⟩;obtain⟨v,b⟩:=h.2.2.1;show ir w A;unfold World.cell? at b;unfold ir;grind
theorem Mc(d:A∈l):G2 (DX (cP wI.heap.size l st)) ⟨A,5,none⟩:=λw w' es D e c b=>by
 rcases D.ev e c with ⟨a,g,_,f,_⟩|rfl
 .rw[g]at b;cases b;exact f.1 ⟨A,d,.inl rfl⟩
 .cases b
theorem Rm(b:A∈l)(i:wI.heap.size<=A){a:Nat->Option Seat}{St:Nat->Loc->Prop}{L d n dl:Nat}(c:d<=9)(e:∀p∈st,p.1≠⟨A,5,none⟩)(f:∀g x,(a g).isSome->St g x->wD st x)(h:Nat):
 aB prog (h==0) (DX (cP wI.heap.size l st)) (fP prog Post (KD wI A cc st) (QD A) (jq l) St a (hU A) L d h n dl):=
 JJ (mO b i e) c Ko (λw w' es D=>⟨Gy (λd ⟨g,c,a⟩ o=>(o.2 rfl).2 (f g _ c a)) (λd wr z o=>o.1 z) (λw w' es D=>P1 b D) w w' es D,Kn b D⟩) DX.idle wu (Mc b)
theorem YK{k:Nat}(m:wI.heap.size<=c)(i:c∈cc)(h:KD wI A cc st w):KD wI A cc st (w.setChan c 0 #[] false k k false):=by
 obtain⟨o,g,⟨v,f⟩,n,l,j⟩:=h;obtain⟨k,d⟩:=g.2 c i;have b:∀(a:Addr)(v:ay),w.cell? a=some v->c≠a.block:=λa v h e=>by subst e;simp[World.cell?,d]at h
 exact⟨Fh m o,IL (λy a=>b _ _ (g.1 y a)) i g,⟨v,((iR (b _ _ f) ..).1).trans f⟩,((iR (b _ _ f) ..).2).trans n,l,((iR (b _ _ j) ..).1).trans j⟩
theorem EU{C:List Addr}(h:QD A w)(k:Kp [] w w' C)(a:(⟨A,6,none⟩:Addr)∉C):QD A w':=⟨k.cellC _ _ (by simp) a h.1,(k.Q6 _ _ (by simp) a h.1).trans h.2⟩
end
theorem gO(h:nth M i=some r):r∈M:=by rw[dF]at h;exact sQ h
theorem lP(h:r∈M):∃i,nth M i=some r:=by
 obtain⟨i,a⟩:=u9 h;exact⟨i,by rw[dF];exact a⟩
theorem Sat.kp{C:List Addr}(h:Sat O w M)(k:Kp [] w w' C)(d:∀r∈M,∀j,r.has j->r.ad j∉C)(f:∀r∈M,∀g e n,r.row=some (g,e,n)->∀x∈C,x.block≠g):Sat O w' M:=by
 refine⟨λi r a j b=>?_,λi r a j b=>?_,h.sep,λi r a g e n c=>?_⟩
 .exact k.cellC _ _ (by simp) (d r (gO a) j b) (h.val i r a j b)
 .have:=h.ok i r a j b;exact⟨this.1,λz=>⟨(this.2 z).1,(k.Q6 _ _ (by simp) (d r (gO a) j b) (h.val i r a j b)).trans (this.2 z).2⟩⟩
 .obtain⟨m,l,b,j,d⟩:=h.row i r a g e n c;exact⟨m,l,b,k.blk g b e (0,0) (by simp) (f r (gO a) g e n c) j,d⟩
theorem Sat.PZ(h:Sat O w M)(k:Kp [] w w' []):Sat O w' M:=h.kp k (λ_ _ _ _=>by simp) (λ_ _ _ _ _ _ x a=>by cases a)
theorem Sat.OB(h:Sat O w M)(d:∀r∈M,∀j,r.has j->O (r.ad j) false->Wy (r.ad j) false)(c:∀r∈M,r.wr=true->∀j,r.has j->O (r.ad j) true->Wy (r.ad j) true):Sat Wy w M:=by
 refine⟨h.val,λi r b j a=>?_,h.sep,h.row⟩;have:=h.ok i r b j a;exact⟨d r (gO b) j a this.1,λz=>⟨c r (gO b) z j a (this.2 z).1,(this.2 z).2⟩⟩
theorem Sat.dj(h:Sat O w M){b:aH}(l:r∈M)(d:b∈M)(g:r.wr=true)(c:b.wr=false){j j':Ix}(m:r.has j)(f:b.has j'):r.ad j≠b.ad j':=λe=>by
 obtain⟨i,k⟩:=lP l;obtain⟨l,a⟩:=lP d;obtain⟨rfl,_⟩:=h.sep i r l b k a g j j' m f e;rw[k]at a;cases a;rw[g]at c;cases c
theorem Sat.still{b:Nat}(h:Sat (cP N l st) w M)(d:oR b 0 (v::vs) false∈M):Sat (cP N l ((⟨b,0,none⟩,u)::st)) w M:=by
 refine h.OB (λr _ j _ o=>⟨o.1,λz=>by cases z⟩) (λr f c j g o=>⟨o.1,λ_=>⟨(o.2 rfl).1,fun⟨p,a,e⟩=>?_⟩⟩);rcases ak.1 a with rfl|a
 .simp only[Loc.cell.injEq]at e;exact h.dj f d c rfl g (j':=(0,0)) ⟨aD,by simp⟩ e
 .exact(o.2 rfl).2 ⟨p,a,e⟩
theorem V7{y:ju}{a:Nat}{g:Gt}{f:Fb}(b:y.k=4):fR ⟨f.g,0,none⟩ 1 f.v (f.o+f.c) true∈gR y a g f q:=by unfold gR;rw[af (by omega),ah b];simp
theorem PV.still{b:Nat}{s:PS}{es:jl}(P:PV (cP N l st) s es)(h:Sat (cP N l st) w (pM s++C))(x:oR b 0 (v::vs) false∈pM s++C)(D:∀r∈gS s,r∈pM s++C)(y:∀k,k<s.k.V.nl->(s.k.V.ly k).k=5->(s.f k).s=true->(s.f k).g≠b):PV (cP N l ((⟨b,0,none⟩,u)::st)) s es:=by
 have up:∀(a:Addr)(wr:Bool),a.block≠b->cP N l st a wr->cP N l ((⟨b,0,none⟩,u)::st) a wr:=λa wr c o=>⟨o.1,λz=>⟨(o.2 z).1,fun⟨p,i,e⟩=>by
  rcases ak.1 i with rfl|i
  .simp only[Loc.cell.injEq]at e;exact c (by rw[e])
  .exact(o.2 z).2 ⟨p,i,e⟩⟩⟩
 refine⟨⟨P.jr.row,P.jr.le,P.jr.mx,λa n i wr c=>?_⟩,P.en,λA=>⟨(P.eo A).1,λa wr c=>?_⟩,λk f d=>⟨(P.fb k f d).nil,(P.fb k f d).len,λm i wr c=>up i wr (λz=>?_) ((P.fb k f d).ok m i wr c),(P.fb k f d).val⟩,λk f e=>⟨(P.rm k f e).nil,(P.rm k f e).len,λm i wr c=>up i wr (λz=>y k f e m (by rw[<-z,c])) ((P.rm k f e).ok m i wr c),(P.rm k f e).val⟩,P.cx⟩
 .refine up i wr (λz=>?_) (P.jr.PD a n i wr c);rcases P.jr.row with ⟨q,_⟩|⟨g,q,B⟩
  .rw[q]at n;cases n
  .have t:vR s.ea 5 (λj=>yt (s.l.ev j)) s.l.el s.ec 55∈pM s++C:=gU _ (by simp[pM]);refine h.dj t x rfl rfl (j:=(0,0)) (j':=(0,0)) ⟨B,(by decide:0<5)⟩ ⟨aD,by simp⟩ ?_;rw[q]at n;cases n;show(((s.ea).getD ⟨0,0,none⟩).add (0*5)).add 0=(⟨b,0+0,none⟩:Addr)
   rw[q];show((⟨g,0,none⟩:Addr).add (0*5)).add 0=_;rw[add_add];simp only at c;rw[<-z,c]
 .refine up a wr (λz=>?_) ((P.eo A).2 a wr c);have a:0<s.eb.n:=by
   rcases P.en.2 with ⟨_,_,e⟩|⟨_,_,_,_,_,_,z,_⟩
   .omega
   .exact z
  have t:eR s.eb∈pM s++C:=gU _ (by simp[pM]);refine h.dj t x rfl rfl (j:=(0,0)) (j':=(0,0)) ⟨by show 0<s.eb.c;omega,a⟩ ⟨aD,by simp⟩ ?_;show(⟨s.eb.E,0,none⟩:Addr)=⟨b,0+0,none⟩
  rw[<-z,c]
 .have a:=(P.fb k f d).len m;refine h.dj (D _ (K4 f _ (V7 d))) x rfl rfl (j:=(0,0)) (j':=(0,0)) ⟨by show 0<(s.f k).o+(s.f k).c;omega,aD⟩ ⟨aD,by simp⟩ ?_;show((⟨(s.f k).g,0,none⟩:Addr).add (0*1)).add 0=(⟨b,0+0,none⟩:Addr)
  rw[add_add,<-z,c]
theorem Sat.Yr{b:Nat}(h:Sat O w' M)(o:w'.cell? ⟨b,0,none⟩=some v)(p:O ⟨b,0,none⟩ false)(q:∀r∈M,r.wr=true->∀j,r.has j->(r.ad j).block≠b):Sat O w' (oR b 0 [v] false::M):=by
 rw[sat_iff]at h ⊢;refine⟨λr c=>?_,dr.2 ⟨λr c m j l a i e=>?_,h.2⟩⟩
 .rcases ak.1 c with rfl|c
  .have k:∀j:Ix,(oR b 0 [v] false).has j->j=(0,0):=λj a=>by
    obtain⟨s,b⟩:=a;have f:j.1<1:=s;have d:j.2<1:=b;cases j;simp at f d;subst f;subst d;rfl
   exact⟨λj a=>by rw[k j a];exact o,λj a=>⟨by rw[k j a];exact p,λz=>(by cases z)⟩,λz=>(by cases z),λg e n z=>(by cases z)⟩
  .exact h.1 r c
 .rcases m with z|z
  .cases z
  .exact q r c z l i (by rw[<-e])
theorem Sat.Rz:∀{Z:aW},Sat O w M->(∀r∈Z,r∈M/\r.wr=false)->Sat O w (Z++M)
 |[],h,_=>h
 |r::Z,h,b=>by
  have e:=Sat.Rz (Z:=Z) h λc a=>b c (aP _ a);obtain⟨d,c⟩:=b r (bI ..);obtain⟨i,a⟩:=lP d;exact e.get (Has.app (C:=M) ⟨c,i,a⟩ Z)
theorem Sat.blk(h:Sat O w M)(a:r∈M){j:Ix}(b:r.has j):(r.ad j).block<w.heap.size:=au ((h.mem a).val j b)
abbrev cu{α:Type}(f:Nat->α)(i:Nat)(x:α):Nat->α:=Go.ConcN.upd f i x
theorem bz(f:Nat->α)(i:Nat)(x:α):cu f i x i=x:=Go.ConcN.upd_same ..
theorem b9(f:Nat->α)(x:α)(h:j≠i):cu f i x j=f j:=Go.ConcN.upd_ne _ _ h
structure RN where
 wI:World
 l:List Nat
 k:PK
 cR:Frame
 lT:List Frame
 S:List aH
 W:List aH
 Lf:LS
 ba:Nat->Nat
 bt:Nat->Nat
 bw:Nat->Nat
 bi:Nat->Nat
 bl:Nat
 bo:Nat
abbrev RN.n(R:RN):Nat:=R.k.V.nc
abbrev RN.cc(R:RN):List Nat:=R.k.bM::R.k.bJ::(List.range R.n).map R.k.aS
abbrev KX(A:Nat):Value:=.pointer (some ⟨A,5,none⟩)
structure tZ(R:RN):Prop where
 V:wM R.k.V
 hA:R.k.A∈R.l
 ll:∀x∈R.l,x<=R.k.A
 iA:R.wI.heap.size<=R.k.A
 iw:R.wI.heap.size<=R.k.bM
 ie:R.wI.heap.size<=R.k.bJ
 it:∀j,j<R.n->R.wI.heap.size<=R.k.aS j
 we:R.k.bM≠R.k.bJ
 tw:∀j,j<R.n->R.k.aS j≠R.k.bM/\R.k.aS j≠R.k.bJ
 ti:∀i,i<R.n->∀j,j<R.n->R.k.aS i=R.k.aS j->i=j
 sc:∀j,j<R.n->R.k.sc j=.func (.func 50) #[] #[ptr (R.ba j),ptr (R.bt j),ptr (R.bw j)]
 eH:0<R.n->yF R.k R.S
 fl:Flat R.S
 flW:Flat R.W
 ro:∀r∈R.S,r.wr=false
 ch:Has R.S (oR R.k.A 3 [.chan (some R.k.bM),.chan (some R.k.bJ)] false)
 OO:∀j,j<R.n->Has R.S (oR (R.ba j) 0 [ptr R.k.A] false)
 TB:∀j,j<R.n->Has R.S (oR (R.bt j) 0 [ptr (R.k.T j)] false)
 TA:∀j,j<R.n->Has R.S (oR (R.bw j) 0 [.func (.func 37) #[] #[ptr R.bl,ptr R.bo,ptr (R.bi j)]] false)
 hbi:∀j,j<R.n->Has R.S (oR (R.bi j) 0 [i6 j] false)
 Ja:Has R.S (oR R.bo 0 [.slice (some ⟨R.k.O,0,none⟩) R.k.V.nc R.k.V.nc] false)
 KP:Has R.S (oR R.bl 0 [Dv R.k 0] false)
structure yH where
 κ:Nat
 wn:Nat
 x:Nat
 bg:Nat
 c:Frame
 cs:List Frame
 R:List aH
 v:Value
 ly:Int
 b:Bk
 a:Nat->Int
 us:Int
 qq:Nat->Int
abbrev TQ:=Option (yH ⊕ Bool)
abbrev jm(q:yH):TQ:=some (.inl q)
abbrev ld:TQ:=some (.inr false)
abbrev Da:TQ:=some (.inr true)
theorem En(s:TQ):s=none\/(∃q,s=jm q)\/s=ld\/s=Da:=by
 match s with
 |none=>simp
 |some (.inl q)=>simp
 |some (.inr false)=>simp
 |some (.inr true)=>simp
def own(T:Nat):TQ->List aH
 |none=>[dO T (.pointer none) false]
 |some (.inl q)=>dO T q.v false::q.R
 |some (.inr _)=>[]
def DI:TQ->Nat
 |none=>1
 |_=>0
def G8:TQ->Nat
 |some (.inl _)=>1
 |_=>0
structure Gd where
 st:List (Addr×Value)
 ng:Nat
 L:Nat
 nb:Nat
 Inb:Nat->Option Seat
 St:Nat->Loc->Prop
 tk:Nat->TQ
 dn:List aH
def nu(R:RN)(tk:Nat->TQ):List aH:=(List.range R.n).flatMap λj=>own (R.k.T j) (tk j)
def nD(R:RN)(σ:Gd):List aH:=nu R σ.tk++(σ.dn++R.S)
abbrev dD(R:RN)(σ:Gd)(s:PS):List aH:=gS s++nD R σ
abbrev Gd.fr(σ:Gd)(R:RN):Nat:=sumTo R.n λj=>DI (σ.tk j)
abbrev Gd.pk(σ:Gd)(R:RN):Nat:=sumTo R.n λj=>G8 (σ.tk j)
theorem uz{R:RN}{tk:Nat->TQ}(c:i<R.n){b:Bool}:(nu R tk).Perm (own (R.k.T i) (tk i)++nu R (cu tk i (some (.inr b)))):=by
 have:=kC (λj=>own (R.k.T j) (tk j)) (λj=>own (R.k.T j) (cu tk i (some (.inr b)) j)) i (by simp only[bz];rfl) (λj a=>by simp only[b9 _ _ a]) R.n;rw[ah c]at this;exact this
theorem RH(f:Nat->α)(i:Nat)(x y:α):cu (cu f i x) i y=cu f i y:=by
 funext j;by_cases e:j=i
 .subst e;rw[bz,bz]
 .rw[b9 _ _ e,b9 _ _ e,b9 _ _ e]
theorem RG(f:Nat->α)(i:Nat)(x:α)(h:f i=x):cu f i x=f:=by
 funext j;by_cases e:j=i
 .subst e;rw[bz,h]
 .rw[b9 _ _ e]
abbrev jO(R:RN)(σ:Gd):Addr->Bool->Prop:=cP R.wI.heap.size R.l σ.st
abbrev sN(R:RN)(Post:qz)(σ:Gd)(h:Nat):Goroutine->World->Prop:=fP prog Post (KD R.wI R.k.A R.cc σ.st) (QD R.k.A) (jq R.l) σ.St σ.Inb (hU R.k.A) σ.L σ.nb h σ.ng 0
def lX(L:LS)(i t w:Nat):Prop:=(L.ag i).t=t/\(L.ag i).w=w/\(L.wt w).e=false/\((L.ag i).c=1/\(L.wt w).x=false\/(L.ag i).c=2/\(L.wt w).x=true)
structure Wx(R:RN)(σ:Gd)(s:PS)(j:Nat)(q:yH):Prop where
 yN:σ.Inb q.κ=some (lB (R.k.aS j) q.c q.cs)
 BW:0<q.κ
 Lu:q.κ<σ.ng
 bg:(⟨q.bg,0,none⟩,KX R.k.A)∈σ.st
 x:(⟨q.x,0,none⟩,ptr (R.k.T j))∈σ.st
 wn:q.wn<s.l.wl
 wb:s.wb q.wn=q.x
 wl:(s.l.wt q.wn).l=q.ly
 wk:q.ly=R.k.V.nl->(s.l.wt q.wn).b=q.b
 wt:(s.l.wt q.wn).t=j
 we:(s.l.wt q.wn).e=false
 a:(s.l.tk j).a=q.a
 us:s.l.us j=q.us
 tq:(s.l.tk j).q=q.qq
 eH:yF R.k q.R
 fl:Flat q.R
structure Co(R:RN)(σ:Gd)(s:PS)(B:Nat):Prop where
 hk:s.k=R.k
 Ku:0<σ.ng
 IB:R.wI.heap.size<=B
 AB:R.k.A<B
 st:∀p∈σ.st,p.1.off≠5/\p.1.off≠6/\p.1.block<B
 sA:∀y∈qd R.k.A R.k.bM R.k.bJ,y∈σ.st
 sT:∀j,j<R.n->(⟨R.k.T j,3,none⟩,Value.chan (some (R.k.aS j)))∈σ.st
 L9:∀g x,(σ.Inb g).isSome->σ.St g x->wD σ.st x
 yN:∀g e,σ.Inb g=some e->g≠0->∃j q,j<R.n/\σ.tk j=jm q/\q.κ=g
 pk:∀j q,j<R.n->σ.tk j=jm q->Wx R σ s j q
 jz:∀i∈s.q,∃t:Nat,t<R.n/\(s.l.ag i).t=t/\(((s.l.ag i).c=0/\σ.tk t=none)\/∃w:Nat,(s.l.ag i).w=w/\w<s.l.wl/\(((s.l.ag i).c=1/\((s.l.wt w).x=true\/(s.l.wt w).e=true))\/(((s.l.ag i).c=1/\(s.l.wt w).x=false\/(s.l.ag i).c=2/\(s.l.wt w).x=true)/\∃q,σ.tk t=jm q/\q.wn=w)))
 ql:∀i∈s.q,i<s.l.al
 nd:s.q.Nodup
 all:∀t:Nat,t<R.n->(σ.tk t=none->∃i∈s.q,(s.l.ag i).t=t/\(s.l.ag i).c=0)/\∀q,σ.tk t=jm q->∃i∈s.q,lX s.l i t q.wn
 DK:∀i∈s.q,∀j∈s.q,∀t wi wj:Nat,(lX s.l i t wi\/(s.l.ag i).t=t/\(s.l.ag i).c=0)->(lX s.l j t wj\/(s.l.ag j).t=t/\(s.l.ag j).c=0)->i=j
 wa:∀w,w<s.l.wl->(s.l.wt w).x=false->(s.l.wt w).e=false->∃t q,t<R.n/\σ.tk t=jm q/\q.wn=w
 nb:σ.nb+σ.fr R<=9
 ed:∀j,j<R.n->σ.tk j=Da->fu (σ.dn++R.S) (s.oh j) (s.l.ou j).b.ch
 RE:Flat σ.dn
 dW:∃Y,σ.dn=Y++R.W
abbrev lz(R:RN):Seat:=lC R.k.bM R.k.bJ (BT R.k.A R.k.bM R.k.bJ (R.cR::R.lT))
structure ud(R:RN)(σ:Gd)(s:PS)(B t κ bg:Nat):Prop where
 co:Co R σ s B
 tn:t<R.n
 lv:σ.tk t=ld
 W4:∀j,j<R.n->j≠t->σ.tk j≠ld
 i0:σ.Inb 0=some (lz R)
 BW:0<κ
 Lu:κ<σ.ng
 TD:σ.Inb κ=none
 bg:(⟨bg,0,none⟩,KX R.k.A)∈σ.st
 L:σ.L=σ.pk R+1
def Hs(R:RN)(s:PS):Prop:=∀k,k<R.k.V.nl->(R.k.V.ly k).k=5->yV (s.lq k) s.l.wl s.l.wt k
def Sa(R:RN)(Post:qz)(P:Nat->yH->Prop)(m j:Nat)(q:yH):Prop:=∀(σ:Gd)(s:PS)(w:aj),ud R σ s w.heap.size j q.κ q.bg->Sat (jO R σ) w (pM s++(dO (R.k.T j) q.v false::(q.R++dD R σ s)))->PV (jO R σ) s (bA s)->QI s->Hs R s->∀z:Int,u0 R.k.V R.Lf m j q.wn z s.l->
 (s.l.wt q.wn).l=q.ly->(q.ly=R.k.V.nl->(s.l.wt q.wn).b=q.b)->(s.l.tk j).a=q.a->s.l.us j=q.us->(s.l.tk j).q=q.qq->(∀j' I,j'<R.n->σ.tk j'=jm I->P j' I)->sN R Post σ q.κ (G (q.c.finish (i6 z)) q.cs) w
def lV(R:RN)(Post:qz):Nat->Nat->yH->Prop
 |0,_,_=>True
 |m+1,j,q=>lV R Post m j q/\Sa R Post (lV R Post m) m j q
theorem lV.of{R:RN}{Post:qz}{j:Nat}{q:yH}:∀{m:Nat},(∀a,a<m->Sa R Post (lV R Post a) a j q)->lV R Post m j q
 |0,_=>trivial
 |m+1,h=>⟨lV.of λa b=>h a (BX b),h m (gr m)⟩
theorem lV.mono{R:RN}{Post:qz}{j:Nat}{q:yH}:∀{m a:Nat},m<=a->lV R Post a j q->lV R Post m j q
 |m,0,h,x=>by simp_all
 |m,a+1,h,x=>by
  by_cases e:m=a+1
  .simp_all
  .exact lV.mono (Nat.le_of_lt_succ (Nat.lt_of_le_of_ne h e)) x.1
def p7(R:RN)(Post:qz)(m:Nat):Prop:=∀(σ:Gd)(s:PS)(w:aj)(g:aV),Co R σ s w.heap.size->(∀j,j<R.n->σ.tk j≠ld)->σ.Inb 0=none->σ.L=σ.pk R->Sat (jO R σ) w (pM s++dD R σ s)->PV (jO R σ) s (bA s)->QI s->Hs R s->Fin R.k.V R.Lf m none s.l->
 (∀j q,j<R.n->σ.tk j=jm q->lV R Post m j q)->qo R.k.A (R.cR::R.lT) g->sN R Post σ 0 g w
structure Sc(R:RN)(Post:qz)(Λ t κ bg:Nat) where
 σ:Gd
 s0:PS
 B:Nat
 pS:Nat
 N7:ud R σ s0 B t κ bg
 rs:∀j q,j<R.n->σ.tk j=jm q->lV R Post pS j q
 lt:pS<Λ
def eD(R:RN)(Post:qz)(Λ t κ bg:Nat):TE (Sc R Post Λ t κ bg):=⟨λp=>jO R p.σ,λp=>sN R Post p.σ κ,λp=>p.B,λp=>nD R p.σ,λp=>p.s0,λp=>p.pS⟩
section
variable{R:RN}{σ:Gd}{s E:PS}
theorem Co.n5(C:Co R σ s B):∀p∈σ.st,p.1≠⟨R.k.A,5,none⟩:=λp a e=>by have:=(C.st p a).1;simp_all
theorem Co.n6(C:Co R σ s B):∀p∈σ.st,p.1≠⟨R.k.A,6,none⟩:=λp a e=>by have:=(C.st p a).2.1;simp_all
theorem Co.PG(C:Co R σ s B):σ.nb<=9:=aT (Aw _ _) C.nb
theorem Co.hB(C:Co R σ s B)(H:tZ R)(a:Addr)(wr:Bool)(h:B<=a.block):jO R σ a wr:=by
 refine⟨fun⟨c,b,a⟩=>?_,λ_=>⟨aT C.IB h,fun⟨p,a,e⟩=>?_⟩⟩
 .have d:=H.ll c b;have b:=C.AB;grind
 .have:=(C.st p a).2.2;grind
theorem Co.Jh(C:Co R σ s B)(H:tZ R)(h:Nat):aB prog (h==0) (DX (jO R σ)) (sN R Post σ h):=Rm H.hA H.iA C.PG C.n5 C.L9 h
theorem Co.mono(C:Co R σ s B)(h:B<=B'):Co R σ s B':={C with IB:=aT C.IB h,AB:=c7 C.AB h,st:=λp a=>⟨(C.st p a).1,(C.st p a).2.1,c7 (C.st p a).2.2 h⟩}
theorem Co.gq(C:Co R σ s B)(a:σ.tk t=ld)(h:Gq t s E):Co R σ E B:=by
 refine{C with hk:=h.k.trans C.hk,pk:=λj q b a=>?_,jz:=?_,ql:=?_,nd:=?_,all:=?_,DK:=?_,wa:=?_,ed:=λj b c=>?_}
 .have P:=C.pk j q b a;have a:j≠t:=λe=>by simp_all
  exact{P with wn:=by rw[h.wl];exact P.wn,wb:=by rw[h.wb];exact P.wb,wl:=by rw[h.wt];exact P.wl,wk:=by rw[h.wt];exact P.wk,wt:=by rw[h.wt];exact P.wt,we:=by rw[h.wt];exact P.we,a:=by rw[h.tk j a];exact P.a,us:=by rw[h.us j a];exact P.us,tq:=by rw[h.tk j a];exact P.tq}
 .rw[h.q,h.ag,h.wt,h.wl];exact C.jz
 .rw[h.q,h.al];exact C.ql
 .rw[h.q];exact C.nd
 .unfold lX;rw[h.q,h.ag,h.wt];exact C.all
 .unfold lX;rw[h.q,h.ag,h.wt];exact C.DK
 .rw[h.wl,h.wt];exact C.wa
 .have a:j≠t:=λe=>by simp_all
  rw[(h.ou j a).1,(h.ou j a).2];exact C.ed j b c
theorem Co.gc{n:Nat}(C:Co R σ s B)(h:Gc s E n i):Co R σ E B:=by
 have p:∀j,j≠n->E.l.wt j=s.l.wt j:=λj c=>by rw[h.l];simp[LS.dg,LS.put,upd,c]
 have x:E.l.wt n={s.l.wt n with x:=true,b:=⟨0,0,[]⟩}:=by rw[h.l];simp[LS.dg,LS.put,upd]
 have g:∀j,j<s.l.al->E.l.ag j=s.l.ag j:=λj c=>by rw[h.l];simp[LS.dg,LS.put,upd,iS c]
 have DM:E.l.ag s.l.al=⟨s.l.now,(s.l.wt n).t,n,2,false⟩:=by rw[h.l];simp[LS.dg,LS.put,upd]
 have D:E.l.wl=s.l.wl:=by rw[h.l];rfl
 have A:∀j,(E.l.wt j).l=(s.l.wt j).l/\(E.l.wt j).t=(s.l.wt j).t/\(E.l.wt j).e=(s.l.wt j).e:=λj=>by
  grind
 have d:∀j,j∈E.q↔j=s.l.al\/j∈s.q:=λj=>by
  rw[h.q]
  conv=>rhs;rhs;rw[<-va i s.q]
  grind
 obtain⟨u,S,H,G,F⟩:=C.wa n h.wn h.x h.e;have B:=C.pk u S H G;have J:(s.l.wt n).t=(u:Int):=by rw[<-F];exact B.wt
 obtain⟨W,K,l⟩:=(C.all u H).2 S G;rw[F]at l;have old:∀j∈s.q,∀t w:Nat,lX E.l j t w->lX s.l j t w/\w≠n:=λj c t w f=>by
  unfold lX at f;rw[g j (C.ql j c)]at f;have r:w≠n:=λe=>by
   subst e;rw[x]at f;obtain⟨o,L,B,B⟩:=f;rcases B with ⟨_,z⟩|⟨z,_⟩
   .cases z
   .obtain⟨B,a1,Z,V⟩:=C.jz j c;rcases V with ⟨y,_⟩|⟨w',B,B,y3⟩
    .omega
    .have:w'=w:=by omega
     subst this;rcases y3 with ⟨y,_⟩|⟨⟨y,_⟩|⟨_,y⟩,_⟩
     .omega
     .omega
     .rw[h.x]at y;cases y
  rw[p w r]at f;exact⟨f,r⟩
 have y:∀t w:Nat,lX E.l s.l.al t w->t=u/\w=n:=λt w f=>by
  unfold lX at f;grind
 have key:∀j∈s.q,∀w:Nat,(lX E.l j u w\/(E.l.ag j).t=u/\(E.l.ag j).c=0)->False:=λj c w f=>by
  rcases f with f|f
  .obtain⟨o,L⟩:=old j c u w f;have:=C.DK j c W K u w n (.inl o) (.inl l);subst this;have:=o.2.1;have:=l.2.1;omega
  .rw[g j (C.ql j c)]at f;have:=C.DK j c W K u n n (.inr f) (.inl l);subst this;rcases l.2.2.2 with z|z<;>omega
 refine{C with hk:=h.k.trans C.hk,pk:=λj q c M=>?_,jz:=λj c=>?_,ql:=λj c=>?_,nd:=?_,all:=λt U=>⟨λhf=>?_,λq M=>?_⟩,DK:=λa I b v t Q O o L=>?_,wa:=λw Y X N=>?_,ed:=λj c N=>?_}
 .have P:=C.pk j q c M;have r:q.ly=R.k.V.nl->q.wn≠n:=λz e=>by
   obtain⟨k,k,r2,_⟩:=h.r;have:=P.wl;rw[e,k,z]at this;rw[C.hk]at r2;omega
  exact{P with wn:=by rw[D];exact P.wn,wb:=by rw[h.wb];exact P.wb,wl:=by rw[(A _).1];exact P.wl,wk:=λz=>by rw[p _ (r z)];exact P.wk z,wt:=by rw[(A _).2.1];exact P.wt,we:=by rw[(A _).2.2];exact P.we,a:=by rw[h.l];exact P.a,us:=by rw[h.l];exact P.us,tq:=by rw[h.l];exact P.tq}
 .rcases(d j).1 c with rfl|c
  .rw[DM];exact⟨u,H,J,.inr ⟨n,rfl,by rw[D];exact h.wn,.inr ⟨.inr ⟨rfl,by rw[x]⟩,S,G,F⟩⟩⟩
  .rw[g j (C.ql j c)];obtain⟨t,a1,Z,V⟩:=C.jz j c;refine⟨t,a1,Z,V.imp id ?_⟩;grind
 .have:E.l.al=s.l.al+1:=by rw[h.l];rfl
  rcases(d j).1 c with rfl|c
  .omega
  .have:=C.ql j c;omega
 .rw[h.q];have hn:=C.nd;rw[<-va i s.q]at hn;have i:s.l.al∉s.q:=λz=>by have:=C.ql _ z;omega
  grind
 .obtain⟨j,c,o,L⟩:=(C.all t U).1 hf;exact⟨j,(d j).2 (.inr c),by rw[g j (C.ql j c)];omega⟩
 .by_cases e:q.wn=n
  .have T:t=u:=by
    have:=(C.pk t q U M).wt;grind
   subst T;refine⟨s.l.al,(d _).2 (.inl rfl),?_⟩;unfold lX;rw[DM,e,x];exact⟨J,rfl,h.e,.inr ⟨rfl,rfl⟩⟩
  .obtain⟨j,c,o⟩:=(C.all t U).2 q M;refine⟨j,(d j).2 (.inr c),?_⟩;unfold lX at o ⊢;rw[g j (C.ql j c),p _ e];exact o
 .rcases(d a).1 I with rfl|I
  .rcases(d b).1 v with rfl|v
   .rfl
   .have m:t=u:=by
     grind
    subst m;exact(key b v O L).elim
  .rcases(d b).1 v with rfl|v
   .have m:t=u:=by
     grind
    subst m;exact(key a I Q o).elim
   .refine C.DK a I b v t Q O (o.imp (λz=>(old a I t Q z).1) λz=>?_) (L.imp (λz=>(old b v t O z).1) λz=>?_)
    .rw[g a (C.ql a I)]at z;exact z
    .rw[g b (C.ql b v)]at z;exact z
 .have e:w≠n:=λz=>by grind
  rw[p w e]at X N;rw[D]at Y;exact C.wa w Y X N
 .rw[h.l,h.oh];exact C.ed j c N
theorem Co.gu(C:Co R σ s B)(a:σ.tk t=ld)(h:Gu t s E):Co R σ E B:=h (λs=>Co R σ s B) C (λ_ _ c q=>c.gq a q) (λ_ _ _ _ c q=>c.gc q)
theorem Flat.nu(C:Co R σ s B):Flat (nu R σ.tk):=by
 rw[bO];intro r a;unfold Go.Proofs.YtobagnjnbmgidaaGreatDoor.nu at a;obtain⟨j,b,a⟩:=mL.1 a;rcases En (σ.tk j)with e|⟨q,e⟩|e|e
 .rw[e]at a;simp[own]at a;rw[a]
 .rw[e]at a;simp only[own,ak]at a;rcases a with rfl|a
  .rfl
  .exact bO.1 (C.pk j q (aZ.1 b) e).fl r a
 .rw[e]at a;cases a
 .rw[e]at a;cases a
theorem Co.flat(C:Co R σ s B)(H:tZ R):Flat (nD R σ):=(Flat.nu C).app (C.RE.app H.fl)
theorem Co.Gi(C:Co R σ s B)(H:tZ R)(a:∀r∈s.cx,r.wr=false/\r.row=none):Flat (dD R σ s):=Flat.app (bO.2 (r9 s λr b=>(a r b).2)) (C.flat H)
end
def Mx(T aS x:Nat):List (Addr×Value):=[(⟨x,0,none⟩,ptr T),(⟨T,3,none⟩,.chan (some aS))]
def Gd.kE(σ:Gd)(R:RN)(t:Nat)(q:yH):Gd:={st:=(⟨q.x,0,none⟩,ptr (R.k.T t))::σ.st,ng:=σ.ng,L:=σ.L,nb:=σ.nb,Inb:=cu (cu σ.Inb q.κ (some (lB (R.k.aS t) q.c q.cs))) 0 none,St:=cu σ.St q.κ (wD (Mx (R.k.T t) (R.k.aS t) q.x)),tk:=cu σ.tk t (jm q),dn:=σ.dn}
section
variable{R:RN}{σ:Gd}{s E:PS}
theorem Dn(c:t<R.n)(b:σ.tk t=ld)(q:yH)(s:PS):(dD R (σ.kE R t q) s).Perm (own (R.k.T t) (jm q)++dD R σ s):=by
 have h:=uz (R:=R) (tk:=cu σ.tk t (jm q)) c (b:=false);rw[bz,RH,RG _ _ _ b]at h;have a:=h.append_right (σ.dn++R.S);rw[dU]at a;exact(eN (gS s) a).trans (fA ..)
theorem IC(h:I=q.take i++x::q.drop i)(j:Nat):j∈I↔j=x\/j∈q:=by
 rw[h]
 conv=>rhs;rhs;rw[<-va i q]
 simp only[dJ,ak];constructor
 .rintro (h|h|h)
  .exact .inr (.inl h)
  .exact .inl h
  .exact .inr (.inr h)
 .rintro (h|h|h)
  .exact .inr (.inl h)
  .exact .inl h
  .exact .inr (.inr h)
theorem CB(h:I=q.take i++x::q.drop i)(a:q.Nodup)(b:x∉q):I.Nodup:=by
 rw[h];rw[<-va i q]at a b;exact List.perm_middle.nodup_iff.2 (List.nodup_cons.2 ⟨b,a⟩)
theorem ud.Kh(C:ud R σ s B t κ bg){w:Nat}(e:j∈s.q)(h:lX s.l j t w\/(s.l.ag j).t=t/\(s.l.ag j).c=0):False:=by
 obtain⟨d,g,g,c⟩:=C.co.jz j e;have:d=t:=by
  rcases h with h|h
  .have:=h.1;omega
  .have:=h.1;omega
 subst this;rw[C.lv]at c;rcases c with ⟨_,z⟩|⟨w',d,d,⟨d,a⟩|⟨_,q,z,_⟩⟩
 .cases z
 .rcases h with h|h
  .obtain⟨_,d,f,b⟩:=h;have:w'=w:=by omega
   subst this;rcases a with a|a
   .rcases b with b|b
    .rw[a]at b;cases b.2
    .omega
   .rw[f]at a;cases a
  .omega
 .cases z
theorem Jz(C:ud R σ s B t κ bg){D:PS}{ly d:Int}{b:Bk}(W:JV t s D ly d i x b){c:aC}(hs:yF R.k R')(hf:Flat R')(hB:B<=B')(hx:x<B'):
 Co R (σ.kE R t ⟨κ,s.l.wl,x,bg,c,cs,R',v,ly,b,(s.l.tk t).a,s.l.us t,(s.l.tk t).q⟩) D B':=by
 have l:=C.co;generalize L:(⟨κ,s.l.wl,x,bg,c,cs,R',v,ly,b,(s.l.tk t).a,s.l.us t,(s.l.tk t).q⟩:yH)=q;have O:q.κ=κ:=by rw[<-L]
 have Q:q.wn=s.l.wl:=by rw[<-L]
 have qx:q.x=x:=by rw[<-L]
 have Zm:=C.BW;have T:∀j,j<s.l.al->D.l.ag j=s.l.ag j:=λj f=>by rw[W.l];simp[LS.tH,LS.wait,LS.cB,LS.put,upd,iS f]
 have rZ:D.l.ag s.l.al=⟨s.l.now+d,t,s.l.wl,1,false⟩:=by rw[W.l];simp[LS.tH,LS.wait,LS.cB,LS.put,upd]
 have m:=IC W.q;have r:∀k,k<s.l.wl->D.l.wt k=s.l.wt k:=λk c=>by rw[W.l];simp[LS.tH,LS.wait,LS.cB,LS.put,upd,iS c]
 have K:D.l.wt s.l.wl=⟨t,ly,false,false,b⟩:=by rw[W.l];simp[LS.tH,LS.wait,LS.cB,LS.put,upd]
 have Dy:D.l.wl=s.l.wl+1:=by rw[W.l];rfl
 have S:∀j,(D.l.tk j).a=(s.l.tk j).a/\(D.l.tk j).q=(s.l.tk j).q:=λj=>by
  rw[W.l];by_cases e:j=t
  .subst e;simp[LS.tH,LS.wait,LS.cB,LS.put,upd]
  .simp[LS.tH,LS.wait,LS.cB,LS.put,upd,e]
 have Tn:D.l.us=s.l.us:=by rw[W.l];rfl
 have E:∀j,j≠t->(σ.kE R t q).tk j=σ.tk j:=λj f=>b9 _ _ f;have J:(σ.kE R t q).tk t=jm q:=bz ..;have old:∀j∈s.q,∀u w:Nat,(lX D.l j u w\/(D.l.ag j).t=u/\(D.l.ag j).c=0)->(lX s.l j u w\/(s.l.ag j).t=u/\(s.l.ag j).c=0):=λj f u w h=>by
  unfold lX at h;rw[T j (l.ql j f)]at h;refine h.imp_left λh=>?_;obtain⟨F,o,H,M⟩:=l.jz j f;have c:w<s.l.wl:=by
   rcases M with ⟨z,_⟩|⟨w',y1,y2,_⟩
   .rcases h.2.2.2 with g|g<;>omega
   .have:=h.2.1;omega
  rw[r w c]at h;exact h
 refine⟨W.k.trans l.hk,l.Ku,aT l.IB hB,c7 l.AB hB,λp V=>?_,λy d=>aP _ (l.sA y d),λj f=>aP _ (l.sT j f),λg y o H=>?_,λg e o H=>?_,λj I f G=>?_,λj f=>?_,λj f=>?_,CB W.q l.nd (λz=>by have:=l.ql _ z;omega),λF Y=>⟨λN=>?_,λI N=>?_⟩,λa ha b X u wa wb o H=>?_,λw c hx he=>?_,?_,λj f he=>?_,l.RE,l.dW⟩
 .rcases ak.1 V with rfl|V
  .exact⟨(by decide:0≠5),(by decide:0≠6),by show q.x<B';rw[qx];exact hx⟩
  .have:=l.st p V;exact⟨this.1,this.2.1,c7 this.2.2 hB⟩
 .have A:(cu (cu σ.Inb q.κ (some (lB (R.k.aS t) q.c q.cs))) 0 none g).isSome:=o;have U:cu σ.St q.κ (wD (Mx (R.k.T t) (R.k.aS t) q.x)) g y:=H;by_cases e0:g=0
  .subst e0;rw[bz]at A;cases A
  .rw[b9 _ _ e0]at A;by_cases e:g=q.κ
   .subst e;rw[bz]at U;obtain⟨p,V,rfl⟩:=U;simp only[Mx,ak,bH,or_false]at V;rcases V with rfl|rfl
    .exact⟨_,bI ..,rfl⟩
    .exact⟨_,aP _ (l.sT t C.tn),rfl⟩
   .rw[b9 _ _ e]at A U;obtain⟨p,V,rfl⟩:=l.L9 g y A U;exact⟨p,aP _ V,rfl⟩
 .have A:cu (cu σ.Inb q.κ (some (lB (R.k.aS t) q.c q.cs))) 0 none g=some e:=o;rw[b9 _ _ H]at A;by_cases c:g=q.κ
  .exact⟨t,q,C.tn,bz ..,c.symm⟩
  .rw[b9 _ _ c]at A;obtain⟨j,I,f,G,Nh⟩:=l.yN g e A H;exact⟨j,I,f,by rw[E j (λz=>by rw[z,C.lv]at G;cases G)];exact G,Nh⟩
 .by_cases e:j=t
  .subst e;have:I=q:=by
    have h9:=J;rw[G]at h9;cases h9;rfl
   subst this;refine⟨?_,by rw[O];exact Zm,by rw[O];exact C.Lu,aP _ (by rw[<-L];exact C.bg),bI ..,by rw[Q,Dy];exact gr _,?_,by rw[Q,K,<-L],λ_=>by rw[Q,K,<-L],by rw[Q,K],by rw[Q,K],by rw[(S _).1,<-L],by rw[Tn,<-L],by rw[(S _).2,<-L],by rw[<-L];exact hs,by rw[<-L];exact hf⟩
   .show cu (cu σ.Inb I.κ _) 0 none I.κ=_;rw[b9 _ _ (by rw[O];omega),bz]
   .rw[W.wb,Q,qx];exact ah rfl
  .rw[E j e]at G;have P:=l.pk j I f G;have Z:I.κ≠q.κ:=λz=>by have:=P.yN;rw[z,O,C.TD]at this;cases this
   refine⟨?_,P.BW,P.Lu,aP _ P.bg,aP _ P.x,by rw[Dy];exact BX P.wn,?_,by rw[r _ P.wn];exact P.wl,by rw[r _ P.wn];exact P.wk,by rw[r _ P.wn];exact P.wt,by rw[r _ P.wn];exact P.we,by rw[(S j).1];exact P.a,by rw[Tn];exact P.us,by rw[(S j).2];exact P.tq,P.eH,P.fl⟩
   .show cu (cu σ.Inb q.κ _) 0 none I.κ=_;rw[b9 _ _ (by have:=P.BW;omega),b9 _ _ Z];exact P.yN
   .have:=P.wn;rw[W.wb];exact(af (by omega)).trans P.wb
 .rcases(m j).1 f with rfl|f
  .rw[rZ];exact⟨t,C.tn,rfl,.inr ⟨s.l.wl,rfl,by omega,.inr ⟨.inl ⟨rfl,by rw[K]⟩,q,J,Q⟩⟩⟩
  .rw[T j (l.ql j f)];obtain⟨F,o,H,M⟩:=l.jz j f;refine⟨F,o,H,?_⟩;by_cases e:F=t
   .subst e;rw[C.lv]at M;rcases M with ⟨_,z⟩|⟨w',y1,y2,y3|⟨_,q,z,_⟩⟩
    .cases z
    .exact .inr ⟨w',y1,by omega,.inl (by rw[r w' y2];exact y3)⟩
    .cases z
   .rw[E F e];exact M.imp id fun⟨w',y1,y2,y3⟩=>⟨w',y1,by omega,by rw[r w' y2];exact y3⟩
 .have:D.l.al=s.l.al+1:=by rw[W.l];rfl
  rcases(m j).1 f with rfl|f
  .omega
  .have:=l.ql j f;omega
 .have e:F≠t:=λz=>by rw[z,J]at N;cases N
  rw[E F e]at N;obtain⟨j,f,o⟩:=(l.all F Y).1 N;exact⟨j,(m j).2 (.inr f),by rw[T j (l.ql j f)];exact o⟩
 .by_cases e:F=t
  .subst e;rw[J]at N;cases N;refine⟨s.l.al,(m _).2 (.inl rfl),?_⟩;unfold lX;rw[rZ,Q,K];exact⟨rfl,rfl,rfl,.inl ⟨rfl,rfl⟩⟩
  .rw[E F e]at N;obtain⟨j,f,o⟩:=(l.all F Y).2 I N;refine⟨j,(m j).2 (.inr f),?_⟩;unfold lX at o ⊢;rw[T j (l.ql j f),r _ (l.pk F I Y N).wn];exact o
 .have alt:∀u w:Nat,(lX D.l s.l.al u w\/(D.l.ag s.l.al).t=u/\(D.l.ag s.l.al).c=0)->u=t:=λu w h=>by
   unfold lX at h;rw[rZ]at h;rcases h with h|h
   .have:=h.1;simp only at this;omega
   .simp at h
  rcases(m a).1 ha with rfl|ha
  .rcases(m b).1 X with rfl|X
   .rfl
   .have:=alt u wa o;subst this;exact(C.Kh X (old b X u wb H)).elim
  .rcases(m b).1 X with rfl|X
   .have:=alt u wb H;subst this;exact(C.Kh ha (old a ha u wa o)).elim
   .exact l.DK a ha b X u wa wb (old a ha u wa o) (old b X u wb H)
 .by_cases e:w=s.l.wl
  .exact⟨t,q,C.tn,J,by rw[Q,e]⟩
  .have a:w<s.l.wl:=by omega
   rw[r w a]at hx he;obtain⟨F,I,o,H,M⟩:=l.wa w a hx he;exact⟨F,I,o,by rw[E F (λz=>by rw[z,C.lv]at H;cases H)];exact H,M⟩
 .show σ.nb+sumTo R.n (λj=>DI (cu σ.tk t (jm q) j))<=9;have o:=sumTo_upd σ.tk (jm q) DI C.tn;rw[C.lv]at o;have M:=l.nb;simp only[DI,Gd.fr]at o M;unfold cu;simp only[DI]at M ⊢;omega
 .have Z:j≠t:=λz=>by
   rw[z,J]at he;cases he
  rw[E j Z]at he;rw[W.oh,W.l];exact l.ed j f he
end
section
variable{R:RN}{σ:Gd}{s E:PS}
theorem Has.sat{b o:Nat}(h:Sat O w M)(a:Has M (oR b o (v::vs) false)):w.cell? ⟨b,o,none⟩=some v:=by
 obtain⟨_,i,b⟩:=a;exact h.val i _ b (0,0) ⟨aD,by simp⟩
theorem Co.inj(C:Co R σ s B){g b:Nat}{e:Seat}(h:g≠0)(a:σ.Inb g=some e)(f:e.has b):∃j q,j<R.n/\σ.tk j=jm q/\q.κ=g/\b=R.k.aS j:=by
 obtain⟨j,q,d,b,c⟩:=C.yN g e a h;have:=(C.pk j q d b).yN;rw[c,a]at this;rw[Option.some.inj this]at f;exact⟨j,q,d,b,c,l7 f⟩
theorem LV(H:tZ R)(IH:∀m,m<Λ->p7 R Post m)(p:Sc R Post Λ t κ bg)(s f:PS)(w:aj)(i x:Nat)(T:Nat)(d:Int)(b:Bk)(c:aC)(cs:cO)(R':aW)(v:ay)(m:Nat)(g1:Gu t p.s0 s)(hW:JV t s f T d i x b)(hS:Sat (jO R p.σ) w (pM f++(dO (R.k.T t) v false::(R'++dD R p.σ f))))(hP:PV (jO R p.σ) f (bA f))(hQ:QI f)(Q9:Hs R f)(qM:∀k,k<R.k.V.nl->(R.k.V.ly k).k=5->(f.f k).s=true->(f.f k).g≠x)(hF:Flat (R'++nD R p.σ))(D:yF R.k R')(hB:p.B<=w.heap.size)(Z:Fin R.k.V R.Lf m none f.l)(hm:m<=p.pS)(K:∀(i:Sc R Post Λ t κ bg) E w' M (z:Int),M<m->M<=i.pS->Cn (eD R Post Λ t κ bg) R.k t i E w' v R'->u0 R.k.V R.Lf M t s.l.wl z E.l->(E.l.wt s.l.wl).l=T->(T=R.k.V.nl->(E.l.wt s.l.wl).b=b)->(E.l.tk t).a=(s.l.tk t).a->E.l.us t=s.l.us t->(E.l.tk t).q=(s.l.tk t).q->sN R Post i.σ κ (G (c.finish (i6 z)) cs) w'):
 sN R Post p.σ κ (G (Frame.enter Tryz.prog 153 #[ptr x] .normal) (c::cs)) w:=by
 have C:=p.N7;have u:Co R p.σ s p.B:=C.co.gu C.lv g1;have Ct:ud R p.σ s p.B t κ bg:={C with co:=u};have i:=C.BW;have B:(κ==0)=false:=by simp;omega
 have i:=p.lt;have i:=mO (cc:=R.cc) H.hA H.iA u.n5;refine fP.assume i λhK i=>?_;have i:s.k.T t=R.k.T t:=by rw[u.hk]
 have Y:oR x 0 [ptr (R.k.T t)] false∈gS f:=gF _ (gU _ (by rw[zk hW,i];simp));have x0:w.cell? ⟨x,0,none⟩=some (ptr (R.k.T t)):=(hS.mem (gF _ (aP _ (gF _ (gU _ Y))))).val (0,0) ⟨aD,aD⟩;have t0:w.cell? ⟨R.k.T t,0,none⟩=some (ptr R.k.A):=Has.sat hS (((D.nH t C.tn).pre _).cons.app _);have F:=u.Jh (Post:=Post) H κ;rw[B]at F;refine Gx F R.k.A (R.k.T t) R.k.bM (R.k.aS t) x c cs w x0 t0 (hK.2.1.1 _ (u.sA (⟨R.k.A,3,none⟩,.chan (some R.k.bM)) (bI ..))) ⟨oO (by decide) (by decide),λh=>by cases h⟩ ⟨oO (by decide) (by decide),λh=>by cases h⟩ ⟨oO (by decide) (by decide),λh=>by cases h⟩ (λa ⟨W,hsend,V⟩=>?_);clear F;have U:x<w.heap.size:=au x0;have A:=Jz (c:=c) (cs:=cs) (v:=v) Ct hW D hF.left hB U;generalize O:(⟨κ,s.l.wl,x,bg,c,cs,R',v,T,b,(s.l.tk t).a,s.l.us t,(s.l.tk t).q⟩:yH)=q at A;have S:q.κ=κ:=by rw[<-O]
 have qx:q.x=x:=by rw[<-O]
 have qc:q.c=c:=by rw[<-O]
 have qs:q.cs=cs:=by rw[<-O]
 have Ya:=mO (cc:=R.cc) H.hA H.iA A.n5;have o:(p.σ.kE R t q).st=(⟨x,0,none⟩,ptr (R.k.T t))::p.σ.st:=by simp only[Gd.kE,qx]
 have i:KD R.wI R.k.A R.cc (p.σ.kE R t q).st w:=by rw[o];exact⟨hK.1,vT x0 hK.2.1,hK.2.2⟩
 have b:∀w,KD R.wI R.k.A R.cc (p.σ.kE R t q).st w->KD R.wI R.k.A R.cc p.σ.st w:=λw h=>by rw[o]at h;exact⟨h.1,FI (λy hy=>aP _ hy) (λ_ h=>h) h.2.1,h.2.2⟩
 refine fP.less Ya b i ?_;have b:∀w,KD R.wI R.k.A R.cc (p.σ.kE R t q).st w->w.cell? ⟨x,0,none⟩=some (ptr (R.k.T t))/\w.cell? ⟨R.k.T t,3,none⟩=some (.chan (some (R.k.aS t))):=λw h=>by
  rw[o]at h;exact⟨h.2.1.1 _ (bI ..),h.2.1.1 _ (aP _ (u.sT t C.tn))⟩
 obtain⟨nh,hgo⟩:=V (KD R.wI R.k.A R.cc (p.σ.kE R t q).st) (wD (Mx (R.k.T t) (R.k.aS t) x)) w.heap.size w b ⟨⟨_,bI ..,rfl⟩,U⟩ ⟨⟨_,aP _ (bI ..),rfl⟩,au t0⟩;have b:R.k.bM∈R.cc:=by simp[RN.cc]
 have s:∀U∈R.cc,∃N,w.heap[U]? =some (.chan 0 #[] false N N false):=hK.2.1.2;have F:R.k.aS t∈R.cc:=by simp[RN.cc];exact .inr (.inr ⟨t,C.tn,rfl⟩)
 have v:Sat (jO R p.σ) w (pM f++(own (R.k.T t) (jm q)++dD R p.σ f)):=by rw[<-O];exact hS
 have i:oR x 0 [ptr (R.k.T t)] false∈pM f++(own (R.k.T t) (jm q)++dD R p.σ f):=gF _ (gF _ (gU _ Y));have ND:Sat (jO R (p.σ.kE R t q)) w (pM f++dD R (p.σ.kE R t q) f):=by
  have P:=v.still (u:=ptr (R.k.T t)) i;rw[<-o]at P;exact P.perm ((Dn C.tn C.lv q f).symm.append_left _)
 have hPt:PV (jO R (p.σ.kE R t q)) f (bA f):=by
  have G:f.k=R.k:=hW.k.trans u.hk;have P:=hP.still (u:=ptr (R.k.T t)) v i (λr i=>gF _ (gF _ (gU _ i))) (by rw[G];exact qM);rw[<-o]at P;exact P
 refine fP.ya (Q':=QD R.k.A) (j:=0) (c:=R.k.bM) (kk:=0) (s:=lz R) (v:=.agg #[]) (a₂:=a) Ya u.PG
  {kc:=λw k h=>YK H.iw b h
   jh:=by omega
   jn:=u.Ku
   hj:=C.i0
   hk:=⟨_,rfl⟩
   run:=W
   send:=⟨.tuple #[],#[],λd m _=>by rw[B];exact hsend _,by simp⟩
   ch:=s _ b} (sh:=lB (R.k.aS t) c cs) (Ak:=wD (Mx (R.k.T t) (R.k.aS t) x)) (nh:=nh+1) (Seat.one_wf _ _ _ _) (λl b=>⟨vm b,λz=>?_⟩) (.inl ⟨nh,w,rfl,by rw[B];exact hgo⟩) (λU L=>by rw[l7 L];exact s _ F) (λg' E U P h2 h3 h4 h5=>?_) (λN Rh J hh a=>?_) (λN J a=>EU a (Kp.chan J) (by simp))
 .obtain⟨y,hy,rfl⟩:=b;simp only[Mx,ak,bH,or_false]at hy;rcases hy with rfl|rfl<;>exact oO (by decide) (by decide) z
 .obtain⟨j,I,X,n,a,L⟩:=u.inj h2 h3 h5;have b:=l7 h4;have a:j=t:=H.ti j X t C.tn (by rw[<-L,b]);rw[a,C.lv]at n;cases n
 .have kc:Kp [] w (w.setChan R.k.bM 0 #[] false (N+1) (N+1) false):=Kp.chan J;have d:=A.Jh (Post:=Post) H 0;have b:(p.σ.kE R t q).Inb=Go.ConcN.upd (Go.ConcN.upd p.σ.Inb κ (some (lB (R.k.aS t) c cs))) 0 none:=by simp only[Gd.kE,S,qc,qs]
  have a:(p.σ.kE R t q).St=Go.ConcN.upd p.σ.St κ (wD (Mx (R.k.T t) (R.k.aS t) x)):=by simp only[Gd.kE,S,qx]
  rw[<-b,<-a];refine hh 0 (by omega) (λg=>sN R Post (p.σ.kE R t q) 0 g _) (pE d _) (λg' a=>?_);refine IH m (by omega) (p.σ.kE R t q) f _ g' (by rw[oN];exact A) (λj X=>?_) (by rw[b];exact Go.ConcN.upd_same ..) ?_ (ND.PZ kc) hPt hQ Q9 Z (λj I X n=>?_) a
  .by_cases e:j=t
   .subst e;show cu p.σ.tk j (jm q) j≠ld;rw[bz];exact λz=>by cases z
   .show cu p.σ.tk t (jm q) j≠ld;rw[b9 _ _ e];exact C.W4 j X e
  .show p.σ.L=sumTo R.n (λj=>G8 (cu p.σ.tk t (jm q) j));have h2:=sumTo_upd p.σ.tk (jm q) G8 C.tn;rw[C.lv]at h2;have h3:=C.L;simp only[G8,Gd.pk]at h2 h3;unfold cu;simp only[G8]at h3 ⊢;omega
  .by_cases e:j=t
   .subst e;have:I=q:=by
     have h9:cu p.σ.tk j (jm q) j=jm I:=n;rw[bz]at h9;cases h9;rfl
    subst this;refine lV.of λM b a d c C1 Q h g i z fo f1 f2 f3 f4 f5 f=>?_;rw[<-O]at C1 Q fo f1 f2 f3 f4 f5 ⊢;exact K ⟨a,d,c.heap.size,M,C1,f,by omega⟩ d c M z b (az _) ⟨Q,h,g,hF.left.app (C1.co.flat H),D,az _,Gu.refl _ _,C1.co.hk,i⟩ fo f1 (λe=>f2 (by show(T:Int)=_;rw[e])) f3 f4 f5
   .have h9:cu p.σ.tk t (jm q) j=jm I:=n;rw[b9 _ _ e]at h9;exact(p.rs j I X h9).mono hm
theorem NM(H:tZ R)(y:∀m,m<Λ->p7 R Post m)(a:t<R.n):jF (eD R Post Λ t κ bg) R.k R.Lf t:=
 {V:=H.V
  tn:=a
  f:=λp=>by
   have F:=p.N7.co.Jh (Post:=Post) H κ;have a:(κ==0)=false:=by have:=p.N7.BW;simp;omega
   rw[a]at F;exact F
  hB:=λp=>p.N7.co.hB H
  wait:=λp s h w i x j d b c cs R' v m u _ _ l n q o g f r e t a k K=>LV H y p s h w i x j d b c cs R' v m u l n q o g f r e t a k K}
end
theorem NV(w:aj):(binOp .eql 20 .nilIface .nilIface).events prog w #[]=#[]:=by kernel_rfl
theorem NU(w:aj):(binOp .neq 20 .nilIface .nilIface).events prog w #[]=#[]:=by kernel_rfl
def R7(A T bJ bg bt X:Nat)(fr:aC)(cs:cO):Prop:=∀(O:dh)(J:gi)(w3:aj)(u:ay),aB prog false (DX O) J->w3.cell? ⟨bt,0,none⟩=some (.pointer (some ⟨T,0,none⟩))->w3.cell? ⟨X,0,none⟩=some (.pointer (some ⟨A,0,none⟩))->w3.cell? ⟨A,4,none⟩=some (.chan (some bJ))->w3.cell? ⟨T,7,none⟩=some u->w3.frozen? ⟨T,7,none⟩=false->
 O ⟨bt,0,none⟩ false->O ⟨X,0,none⟩ false->O ⟨A,4,none⟩ false->O ⟨T,7,none⟩ true->(∀gE w4,Sq A bJ bg gE->Kp [] w3 w4 [⟨T,7,none⟩]->J gE w4)->J (G (fr.finish (.tuple #[])) cs) w3
theorem L5{J:gi}(F:aB prog false (DX O) J)(A T k bg m t l X B z C:Nat)(c:aj)(s:c.cell? ⟨m,0,none⟩=some (.func (.func 62) #[] #[.pointer (some ⟨t,0,none⟩),.pointer (some ⟨l,0,none⟩),.pointer (some ⟨X,0,none⟩)]))(q:c.cell? ⟨t,0,none⟩=some (.func (.func 37) #[] #[.pointer (some ⟨B,0,none⟩),.pointer (some ⟨z,0,none⟩),.pointer (some ⟨C,0,none⟩)]))(r:c.cell? ⟨l,0,none⟩=some (.pointer (some ⟨T,0,none⟩)))(I:O ⟨m,0,none⟩ false)(H:O ⟨t,0,none⟩ false)(E:O ⟨l,0,none⟩ false)(t:∀y cs,R7 A T k bg l X y cs->J (G (Frame.enter prog 37 #[.pointer (some ⟨T,0,none⟩),.pointer (some ⟨B,0,none⟩),.pointer (some ⟨z,0,none⟩),.pointer (some ⟨C,0,none⟩)] .normal) (y::cs)) c):J (born prog (call89 bg m)) c:=by
 refine(pE F c).step _ _ rfl (λw _=>⟨#[],Od bg m w,by simp⟩) ?_;unfold Ag;refine F.cF ?_;refine F.aJ ?_;refine F.GD rfl rfl (by decide) rfl rfl rfl ?_;walk_nrm;refine F.CZ ?_;refine F.Ym ?_;refine F.z9 rfl rfl (by decide) rfl rfl func62 (by rfl) (by rfl) ?_;try walk_nrm
 simp only[enter_at _ func62 rfl,ntmps62];walk_nrm;refine F.cF ?_;refine F.Ym ?_;refine F.Ym ?_;refine F.z9 rfl rfl (by decide) rfl rfl func37 (by rfl) (by rfl) ?_;try walk_nrm
 refine t _ _ ?_;clear F s q r I H E t;intro O J n u F b i j g iO c c c c M;have c:=NU;have c:=NV;have o:Kp [] n n [⟨T,7,none⟩]:=Kp.refl _;rw[bQ];try walk_nrm
 refine F.dA ?_;refine F.Ym ?_;iterate 2 (refine F.aJ ?_)
 refine F.op rfl rfl (by decide) (λd K x=>?_);go_simp;rw[setCell_at'];refine x _ _ ⟨DX.set _ (by(first|assumption|(apply p<;>dsimp only<;>omega))) (λe L=>?_),?_⟩
 .have v:=mem_listed L;simp[go_sem,storedEv,fD,ig,fE,jc,gP, *]at v;subst v;exact .inl ⟨_,rfl,rfl,by(first|assumption|(apply p<;>dsimp only<;>omega)),by simp only[iL,size_set];first|omega|exact au (by assumption)⟩
 clear x K d;try walk_nrm
 generalize a:World.setCell n _ _=D;have c:=lu a;replace iO:=eF iO a;replace i:=dQ i a (by simp<;>omega);replace j:=dQ j a (by simp<;>omega);replace b:=dQ b a (by simp<;>omega);replace g:=kP g a;replace o:=o.Ch a (by first|(left;simp;done)|(right;left;simp;done)|(right;right;dsimp only;omega));refine F.CZ ?_;refine F.Ym ?_;iterate 2 (refine F.aJ ?_)
 refine F.Ym ?_;refine F.aJ ?_;refine M _ D ⟨rfl,λd=>?_,λKK N h=>?_⟩ o
 .rw[stepG_comm (cases:=#[scase k (.agg #[]) (.tuple #[])]) (blocking:=true) (shape:=.send) (w':=d) rfl rfl (by decide) (by simp[execOp,scase,Act.eval])];rw[listed_nil (by simp[go_sem,execOp,Act.eval])]
 clear F;have F:=rN (P:=prog) (K:=KK) (Gp:=hU A) 0;rw[served_fr,bQ];try walk_nrm
 refine F.Du func62 ?_;rw[bQ];try walk_nrm
 refine F.re ?_;refine F.ctl (λ_=>stepG_end) ?_;refine F.ctl (λ_=>tj rfl func90 (by rfl) rfl) ?_;simp only[ntmps90,ZP,Nat.reduceAdd,Nat.reduceSub];refine F.sq ?_;refine F.cF ?_;refine F.ctl (λ_=>Qh rfl rfl rfl rfl rfl rfl) ?_;walk_nrm;refine F.aJ ?_;refine F.dA ?_;iterate 2 (refine F.oq rfl rfl rfl (λw f=>by first|(simp[go_sem];done)|simp[go_sem,Instr.makeInterface,Instr.makeFunc, *]) (λw f=>by go_simp;first|exact⟨rfl,rfl⟩|exact rfl) ?_;try walk_nrm)
 refine F.re ?_;refine F.cf rfl ?_;refine F.sk ?_;refine F.zA ?_;apply F.opn rfl rfl (by decide)
 .intro w f;exact tK (ad:=⟨bg,0,none⟩) (by kernel_rfl) (by simp[go_sem,h w f])
 .intro w f;have c:=h w f;go_simp;first|exact⟨rfl,rfl⟩|exact rfl
 try walk_nrm
 refine F.uO func91 ?_;simp only[enter_at _ func91 rfl,ntmps91];walk_nrm;refine F.zA ?_;refine F.aJ ?_;refine F.uO func88 ?_;refine Dh A N _ _ ?_;clear F;have F:=nX (P:=prog) 0;rw[bQ];try walk_nrm
 refine F.Du func91 ?_;rw[bQ];try walk_nrm
 refine F.re ?_;refine F.ctl (λ_=>stepG_end) ?_;refine F.ctl (λw=>stepG_leave_deferred rfl rfl func90 (resultsC_none (by rfl) _ w).1 (resultsC_none (by rfl) _ w).2 rfl) ?_;exact Il _
theorem l9{s:PS}{es:jl}{b i0:Nat}{d:aH}{j0:Ix}(h:Sat O w (pM s++C))(P:PV O s es)(o:Flat C)(k:nth (pM s++C) i0=some d)(p:i0≠1)(p:i0≠3)(j:d.has j0)(m:d.ad j0=⟨b,0,none⟩):
 ∀r∈pM s++C,∀g e n,r.row=some (g,e,n)->b≠g:=by
 intro r c g e n a i;subst i;rcases dJ.1 c with c|c
 .simp only[pM,ak,bH,or_false]at c;rcases c with rfl|rfl|rfl|rfl|rfl|rfl|rfl
  .cases a
  .obtain⟨f,l,_⟩:=h.row 1 _ rfl b e n a;have:=(h.sep 1 _ i0 d rfl k rfl (0,0) j0 f j (by simp_all)).1;omega
  .cases a
  .obtain⟨f,l,_⟩:=h.row 3 _ rfl b e n a;have e:s.ea=some ⟨b,0,none⟩:=by
    rcases P.jr.row with ⟨z,_⟩|⟨g,b,_⟩
    .simp_all
    simp_all
   have:=(h.sep 3 _ i0 d rfl k rfl (0,0) j0 f j (by
    rw[m];show((s.ea.getD ⟨0,0,none⟩).add (0*5)).add 0=_;rw[e];rfl)).1
   omega
  .cases a
  .cases a
  .cases a
 .rw[bO.1 o r c]at a;cases a
theorem fu.pre{h:ay}{L:List iN}(x:fu C h L)(A:aW):fu (C++A) h L:=by
 rcases x with x|⟨c,U,i,b,a⟩
 .exact .inl x
 .exact .inr ⟨c,U,i,b,by rw[b8,ah (qH _ _ _ a)];exact a⟩
def Gd.py(σ:Gd)(R:RN)(t:Nat)(X:aW):Gd:={σ with L:=σ.pk R,Inb:=cu σ.Inb 0 none,tk:=cu σ.tk t Da,dn:=X++σ.dn}
section
variable{R:RN}{σ:Gd}{s E:PS}
theorem Fc(a:σ.tk t=ld):nu R (cu σ.tk t Da)=nu R σ.tk:=by
 unfold nu;congr 1;funext j;by_cases e:j=t
 .subst e;rw[bz,a];rfl
 .rw[b9 _ _ e]
theorem vk(a:TQ->Nat)(b:a Da=a ld)(b:t<R.n)(c:σ.tk t=ld):sumTo R.n (λj=>a (cu σ.tk t Da j))=sumTo R.n λj=>a (σ.tk j):=by
 have h:=sumTo_upd σ.tk Da a b;simp_all
theorem N9(C:ud R σ s B t κ bg){X:aW}(G:Flat X)(A:B<=B')(v:fu X (s.oh t) (s.l.ou t).b.ch):Co R (σ.py R t X) s B':=by
 have a:=C.co;have d:∀j,j≠t->(σ.py R t X).tk j=σ.tk j:=λj k=>b9 _ _ k;have r:∀j,(σ.py R t X).tk j=none\/(∃q,(σ.py R t X).tk j=jm q)->j≠t:=λj h e=>by
  have h:(σ.py R t X).tk t=Da:=bz ..;simp_all
 have f1:(σ.py R t X).fr R=σ.fr R:=vk DI rfl C.tn C.lv;have f2:(σ.py R t X).pk R=σ.pk R:=vk G8 rfl C.tn C.lv;refine⟨a.hk,a.Ku,aT a.IB A,c7 a.AB A,λp h=>?_,a.sA,a.sT,λg y l i=>?_,λg e l i=>?_,λj I k b=>?_,λj k=>?_,a.ql,a.nd,λf n=>⟨λm=>?_,λI m=>?_⟩,a.DK,λw F E o=>?_,?_,λj k o=>?_,G.app a.RE,by obtain⟨Y,e⟩:=a.dW;exact⟨X++Y,by show X++σ.dn=_;simp_all⟩⟩
 .have:=a.st p h;omega
 .have c:(cu σ.Inb 0 none g).isSome:=l;by_cases D:g=0
  .subst D;rw[bz]at c;cases c
  .rw[b9 _ _ D]at c;exact a.L9 g y c i
 .have c:cu σ.Inb 0 none g=some e:=l;rw[b9 _ _ i]at c;obtain⟨j,I,k,b,u⟩:=a.yN g e c i;exact⟨j,I,k,by rw[d j (λz=>by rw[z,C.lv]at b;cases b)];exact b,u⟩
 .have e:=r j (.inr ⟨I,b⟩);rw[d j e]at b;have P:=a.pk j I k b;exact{P with yN:=by show cu σ.Inb 0 none I.κ=_;rw[b9 _ _ (by have:=P.BW;omega)];exact P.yN}
 .obtain⟨f,l,i,x⟩:=a.jz j k;refine⟨f,l,i,?_⟩;by_cases e:f=t
  .subst e;rw[C.lv]at x;grind
  simp_all
 .have e:=r f (.inl m);rw[d f e]at m;exact(a.all f n).1 m
 .have e:=r f (.inr ⟨I,m⟩);rw[d f e]at m;exact(a.all f n).2 I m
 .obtain⟨f,I,l,i,x⟩:=a.wa w F E o;exact⟨f,I,l,by rw[d f (λz=>by rw[z,C.lv]at i;cases i)];exact i,x⟩
 .rw[f1];exact a.nb
 .by_cases e:j=t
  .subst e;exact(v.pre σ.dn).pre R.S
  .rw[d j e]at o;have:=(a.ed j k o).app X;rw[<-dU]at this;exact this
theorem Rx(H:tZ R)(K:∀m,m<Λ->p7 R Post m)(p:Sc R Post Λ t κ bg){l:aV}{X:aW}(z:Sq R.k.A R.k.bJ bg l)(b:Gu t p.s0 s)(D:Sat (jO R p.σ) w (pM s++((X++R')++dD R p.σ s)))(F:PV (jO R p.σ) s (bA s))(E:QI s)(y:Hs R s)(v:Flat ((X++R')++nD R p.σ))(x:p.B<=w.heap.size)(c:Fin R.k.V R.Lf m none s.l)(B:m<=p.pS)(a:fu X (s.oh t) (s.l.ou t).b.ch):sN R Post p.σ κ l w:=by
 have C:=p.N7;have n:Co R p.σ s p.B:=C.co.gu C.lv b;have J:ud R p.σ s p.B t κ bg:={C with co:=n};have o:=C.BW;have q:(κ==0)=false:=by simp;omega
 have b:=p.lt;have A:=mO (cc:=R.cc) H.hA H.iA n.n5;refine fP.assume A λG b=>?_;have f:=N9 (X:=X) J v.left.left x a;have b:R.k.bJ∈R.cc:=by simp[RN.cc]
 obtain⟨v,v⟩:=z.dp (KD R.wI R.k.A R.cc p.σ.st) (λW h=>h.2.2.1) (λW h=>h.2.1.1 _ C.bg);have f2:(p.σ.py R t X).pk R=p.σ.pk R:=vk G8 rfl C.tn C.lv;have x:Sat (jO R (p.σ.py R t X)) w (pM s++dD R (p.σ.py R t X) s):=by
  have J:Sat (jO R p.σ) w (pM s++(X++dD R p.σ s)):=D.sub (nN (by simp) _);have e:dD R (p.σ.py R t X) s=(gS s++nu R p.σ.tk)++(X++(p.σ.dn++R.S)):=by
   show gS s++(nu R (cu p.σ.tk t Da)++((X++p.σ.dn)++R.S))=_;rw[Fc C.lv,dU,dU]
  rw[e];refine J.perm (eN _ ?_);have:=fA X (gS s++nu R p.σ.tk) (p.σ.dn++R.S);rw[dU (gS s)]at this;exact this
 have key:fP prog Post (KD R.wI R.k.A R.cc p.σ.st) (QD R.k.A) (jq R.l) p.σ.St p.σ.Inb (hU R.k.A) (p.σ.pk R+1) p.σ.nb κ p.σ.ng 0 l w:=by
  refine fP.F9 (Q':=QD R.k.A) (j:=0) (c:=R.k.bJ) (kk:=1) (s:=lz R) (v:=.agg #[]) (a₂:=l) A n.PG
   {kc:=λw k h=>YK H.ie b h
    jh:=by omega
    jn:=n.Ku
    hj:=C.i0
    hk:=⟨_,rfl⟩
    run:=z.run
    send:=⟨.tuple #[],#[],λd m _=>by rw[q];exact z.send _,by simp⟩
    ch:=G.2.1.2 _ b} o v (λd Rh a h b=>?_) (λd a b=>EU b (Kp.chan a) (by simp))
  have kc:Kp [] w (w.setChan R.k.bJ 0 #[] false (d+1) (d+1) false):=Kp.chan a;have a:=f.Jh (Post:=Post) H 0;refine h 1 (by omega) (λg=>sN R Post (p.σ.py R t X) 0 g _) (pE a _) (λg' a=>?_);refine K m (by omega) (p.σ.py R t X) s _ g' (by rw[oN];exact f) (λj u=>?_) (bz p.σ.Inb 0 none) f2.symm (x.PZ kc) F E y c (λj I u r=>?_) a
  .by_cases e:j=t
   .subst e;show cu p.σ.tk j Da j≠ld;rw[bz];simp
   .show cu p.σ.tk t Da j≠ld;rw[b9 _ _ e];exact C.W4 j u e
  .have i:cu p.σ.tk t Da j=jm I:=r;by_cases e:j=t
   .rw[e,bz]at i;cases i
   .rw[b9 _ _ e]at i;exact(p.rs j I u i).mono B
 rw[<-C.L]at key;exact key
theorem Has.rd{b o:Nat}(h:Sat O w M)(a:Has M (oR b o (v::vs) false)):O ⟨b,o,none⟩ false:=by
 obtain⟨_,i,b⟩:=a;exact(h.ok i _ b (0,0) ⟨aD,by simp⟩).1
theorem L6(H:tZ R)(N:∀m,m<Λ->p7 R Post m)(p:Sc R Post Λ t κ bg){bf bw bt:Nat}(C:Cn (eD R Post Λ t κ bg) R.k t p s w v R')(P:Fin R.k.V R.Lf m (some (t,0,none)) s.l)(O:m<=p.pS)(y:∀r,Has R.S r->Has R' r)(u:Has R' (oR bf 0 [.func (.func 62) #[] #[ptr bw,ptr bt,ptr X]] false))(m:Has R' (oR bw 0 [.func (.func 37) #[] #[ptr R.bl,ptr R.bo,ptr (R.bi t)]] false))(f:Has R' (oR bt 0 [ptr (R.k.T t)] false))(M:Has R' (oR X 0 [ptr R.k.A] false)):sN R Post p.σ κ (born prog (call89 bg bf)) w:=by
 have W:=NM (κ:=κ) (bg:=bg) (Post:=Post) H N p.N7.tn;have F:=p.N7.tn;have c:∀{r},Has R' r->Has (pM s++(dO (R.k.T t) v false::(R'++(eD R Post Λ t κ bg).P p s))) r:=λh=>(h.pre _).cons.app _;refine L5 (W.f p) R.k.A (R.k.T t) R.k.bJ bg bf bw bt X R.bl R.bo (R.bi t) w (Has.sat C.sat (c u)) (Has.sat C.sat (c m)) (Has.sat C.sat (c f)) (Has.rd C.sat (c u)) (Has.rd C.sat (c m)) (Has.rd C.sat (c f)) λc cs s=>LQ W C P O (y _ H.Ja) (y _ (H.hbi t F)) (y _ H.KP) λc q E w' B A b i k l c G a I D J=>?_;have c:∀{r},Has R' r->Has (pM (E.fin t b (.slice i k l))++(dO (R.k.T t) B false::((A++R')++(eD R Post Λ t κ bg).P q (E.fin t b (.slice i k l))))) r:=λh=>((h.app A).pre _).cons.app _;obtain⟨_,m,h⟩:=c (y _ H.ch);have v:=a.sat.val m _ h (0,1) ⟨aD,(by decide:1<2)⟩;have p:=(a.sat.ok m _ h (0,1) ⟨aD,(by decide:1<2)⟩).1;have h:nth (pM (E.fin t b (.slice i k l))++(dO (R.k.T t) B false::((A++R')++(eD R Post Λ t κ bg).P q (E.fin t b (.slice i k l))))) 7=some (dO (R.k.T t) B false):=rfl;have u:=a.sat.val 7 _ h (0,3) ⟨aD,(by decide:3<4)⟩;have m:=(a.sat.ok 7 _ h (0,3) ⟨aD,(by decide:3<4)⟩).2 rfl;refine s _ _ w' _ (W.f q) (Has.sat a.sat (c f)) (Has.sat a.sat (c M)) v u m.2 (Has.rd a.sat (c f)) (Has.rd a.sat (c M)) p m.1 λf f Q L=>?_;obtain⟨_,f,d⟩:=c (y _ ((H.eH (BZ F)).nH t F));have c:=l9 (b:=R.k.T t) a.sat a.pv (a.TJ.cons rfl) d (λz=>by subst z;have K:=cT (λo=>o.map aH.wr) d;cases K) (λz=>by subst z;have K:=cT (λo=>o.map aH.wr) d;cases K) (j0:=(0,0)) ⟨aD,(by decide:0<4)⟩ rfl;refine Rx H N q Q a.gu ?_ a.pv a.qi a.ln a.fl (aT a.bd L.size) I G ?_
 .have c:=a.sat.perm (eY (a:=dO (R.k.T t) B false) (l₁:=pM (E.fin t b (.slice i k l))) (l₂:=(A++R')++(eD R Post Λ t κ bg).P q (E.fin t b (.slice i k l))));have d:=(dr.1 (sat_iff.1 c).2).1;refine c.tail.kp L (λr a j b z=>?_) (λr a g e n c x c=>?_)
  .simp only[ak,bH,or_false]at z;exact d r a (.inl rfl) (0,3) j ⟨aD,(by decide:3<4)⟩ b z.symm
  grind
 .show fu A (upd E.oh t _ t) (upd E.l.ou (E.l.tk t).c.toNat _ t).b.ch;rw[D];simp only[upd,mY,if_true];exact J
end
theorem zM(a:Nat->qy):∀n,(cj a n=-1/\∀j,j<n->(a j).o=true)\/∃k:Nat,k<n/\cj a n=k/\(a k).o=false/\∀j,j<n->(a j).o=false->j=k\/fQ a k j
 |0=>.inl ⟨rfl,λj d=>by omega⟩
 |n+1=>by
  unfold cj;rcases zM a n with ⟨g,f⟩|⟨k,g,f,h,g⟩
  .grind
  .rw[f];by_cases c:(a n).o=false/\((k:Int)<0\/(a n).a<(a (k:Int).toNat).a)
   .rw[ah c];have f:(a n).a<(a k).a:=by
     grind
    refine .inr ⟨n,by omega,rfl,c.1,λj d b=>?_⟩;by_cases e:j=n
    .exact .inl e
    .refine .inr (.inl ?_);rcases g j (by omega) b with z|z|z
     .simp_all
     .omega
     omega
   .rw[af c];refine .inr ⟨k,by omega,rfl,h,λj d b=>?_⟩;by_cases e:j=n
    .subst e;right;have:¬((a j).a<(a k).a):=λz=>c ⟨b,.inr (by simp_all)⟩;unfold fQ;omega
    grind
theorem nE{a:Nat->qy}(h:fQ a i j)(b:fQ a j i):False:=by
 unfold fQ at h b;omega
theorem MK{s:PS}(Q:QI s)(d:s.q=i::I):cj s.l.ag s.l.al=i:=by
 have e:=Q.lt i (by simp_all);rcases zM s.l.ag s.l.al with ⟨f,b⟩|⟨k,f,b,h,g⟩
 .grind
 .have a:=Q.all k f h;rw[d]at a;rcases ak.1 a with rfl|a
  .exact b
  .have c:=Q.pN;rw[d]at c;have d:=(dr.1 c).1 k a;rcases g i e.1 e.2 with z|z
   .rw[b,z]
   .exact(nE d z).elim
theorem Ft{s:PS}(Q:QI s)(a:s.q=[]):cj s.l.ag s.l.al=-1:=by
 rcases zM s.l.ag s.l.al with ⟨a,b⟩|⟨k,a,b,b,c⟩
 .exact a
 .have c:=Q.all k a b;simp_all
abbrev PS.bD(s:PS)(i:Nat)(I:aN)(en:ay)(eb:mW):PS:={s with en:=en,eb:=eb,q:=I,l:=s.l.pop i}
theorem fW(s:PS)(i j:Nat)(I:aN)(en:ay)(a:mW):((s.bD i I en a).l.ag j).a=(s.l.ag j).a/\((s.bD i I en a).l.ag j).t=(s.l.ag j).t/\((s.bD i I en a).l.ag j).w=(s.l.ag j).w/\((s.bD i I en a).l.ag j).c=(s.l.ag j).c/\(j≠i->((s.bD i I en a).l.ag j).o=(s.l.ag j).o):=by
 show(upd s.l.ag i _ j).a=_/\(upd s.l.ag i _ j).t=_/\(upd s.l.ag i _ j).w=_/\(upd s.l.ag i _ j).c=_/\(j≠i->(upd s.l.ag i _ j).o=_);unfold upd;grind
theorem QI.bD{s:PS}(Q:QI s){i:Nat}{I:aN}(o:s.q=i::I)(en:ay)(c:mW):QI (s.bD i I en c)/\bA s=fF s i::bA (s.bD i I en c):=by
 have n:=Q.pN;rw[o]at n;obtain⟨m,p⟩:=dr.1 n;have k:∀j∈I,j≠i:=λj d e=>by subst e;exact nE (m j d) (m j d)
 have f:∀j∈I,j∈s.q:=λj d=>by simp_all
 refine⟨⟨λj d=>?_,λj q g=>?_,?_,λj d=>?_,λj d g=>?_,Q.wt⟩,?_⟩
 .have:=Q.lt j (f j d);exact⟨this.1,by rw[(fW s i j I en c).2.2.2.2 (k j d)];exact this.2⟩
 .have l:j≠i:=λe=>by
   subst e;have:((s.bD j I en c).l.ag j).o=true:=by show(upd s.l.ag j _ j).o=true;unfold upd;simp
   simp_all
  rw[(fW s i j I en c).2.2.2.2 l]at g;have:=Q.all j q g;simp_all
 .refine p.imp fun{a b} h=>?_;unfold fQ at h ⊢;rw[(fW s i a I en c).1,(fW s i b I en c).1];exact h
 .rw[(fW s i j I en c).2.2.2.1,(fW s i j I en c).2.2.1];exact Q.ws j (f j d)
 .rw[(fW s i j I en c).2.2.2.1]at g;rw[(fW s i j I en c).2.2.1];exact Q.cv j (f j d) g
 .unfold bA;rw[o,nP];congr 1;refine u7 λj d=>?_;unfold fF;rw[(fW s i j I en c).1,(fW s i j I en c).2.1,(fW s i j I en c).2.2.1,(fW s i j I en c).2.2.2.1]
section
variable{J:gi}
theorem AR(F:aB prog true (DX O) J){s:PS}(hB:HB w.heap.size O)(E:Sat O w (pM s++C))(m:PV O s (bA s))(hC:Flat C)(Q:QI s)(hq:s.q=i::I)(hg:qo s.k.A cs g){f:FuncId}{fst W:gd}(he:(fF s i).2=.func (.func f) fst W)(hf:prog.funcs[f]? =some fn)(A:(fn.name== "runtime.NumGoroutine")=false)(T:fn.body.isNone=false)(K:∀S p h d,pJ s.k.A cs S->Kp [] w p [⟨s.k.A,0,none⟩,⟨s.k.A,1,none⟩]->Sat O p (pM (s.bD i I h d)++C)->PV O (s.bD i I h d) (bA (s.bD i I h d))->QI (s.bD i I h d)->J (G (Frame.enter prog f (fst++W) .normal) (S::cs)) p):J g w:=by
 have Y7:=(Q.bD hq s.en s.eb).2;have t:=m.en;have h0:=E.val 0 _ rfl (0,0) ⟨aD,(by decide:0<2)⟩;have h1:=E.val 0 _ rfl (0,1) ⟨aD,(by decide:1<2)⟩;have o0:=E.ok 0 _ rfl (0,0) ⟨aD,(by decide:0<2)⟩;have Y:=E.ok 0 _ rfl (0,1) ⟨aD,(by decide:1<2)⟩;have hA:s.k.A<w.heap.size:=au h0;have D:s.eb.c=1:=by
  rcases t.2 with ⟨_,z,_⟩|⟨_,_,_,z,_⟩
  .simp_all
  .exact z
 obtain⟨Z9,G⟩:=m.eo D;have hE:fZ (s.k.A+1) w s.en (bA s):=wm E (i:=1) rfl t (λ_=>Z9);have v:∀b,b∈cw s.en->b=s.eb.E:=λb T=>by
  rcases t.2 with ⟨_,z,_⟩|⟨o,c,X,_⟩
  .omega
  .rw[X,bS]at T;simp[Value.ownBlock]at T;omega
 rw[Y7]at hE;have b:fF s i=((s.l.ag i).a,.func (.func f) fst W):=by
  rw[<-he];rfl
 rw[b]at hE;refine Pw F (s.k.A+1) s.k.A cs (s.l.ag i).a f fn fst W _ s.en _ g w hg hf A T hE (gr _) hA h0 (o0.2 rfl).2 h1 (Y.2 rfl).2 Y.1 (Y.2 rfl).1 (o0.2 rfl).1 (λa b=>G a false (v _ b)) hB λS p h R Z b0 a b1 X KI UP=>?_;have b:=l9 (b:=s.k.A) E m hC (i0:=0) (j0:=(0,0)) rfl (by decide) (by decide) ⟨aD,(by decide:0<2)⟩ rfl;have a:Sat O w (bR s.k.A [i6 s.l.now,s.en]::((pM s).tail++C)):=E;have B:=(dr.1 (sat_iff.1 a).2).1;have hT:Sat O p ((pM s).tail++C):=by
  refine(a.tail).kp Z (λr l j k z=>?_) (λr l g e n hg x a=>?_)
  .simp only[ak,bH,or_false]at z;rcases z with z|z
   .exact B r l (.inl rfl) (0,0) j ⟨aD,(by decide:0<2)⟩ k z.symm
   .exact B r l (.inl rfl) (0,1) j ⟨aD,(by decide:1<2)⟩ k z.symm
  .have:=b r (aP _ l) g e n hg;grind
 have q:∀d:mW,(d=s.eb\/d={s.eb with c:=0})->Sat O p (pM (s.bD i I h d)++C):=λd a=>by
  have Q3:Sat O p (eR d::((pM s).tail.tail++C)):=by
   rcases a with rfl|rfl
   .exact hT
   .have P:Sat O p (eR s.eb::((pM s).tail.tail++C)):=hT;rw[sat_iff]at P ⊢;refine⟨λr l=>?_,dr.2 ⟨λr l _ j H k _=>absurd k.1 (uk _),(dr.1 P.2).2⟩⟩;rcases ak.1 l with rfl|l
    .exact⟨λj k=>absurd k.1 (uk _),λj k=>absurd k.1 (uk _),λ_ j _ k=>absurd k.1 (uk _),λg e n z=>by cases z⟩
    grind
  show Sat O p (bR s.k.A [i6 (s.l.ag i).a,h]::(eR d::((pM s).tail.tail++C)));rw[sat_iff]at Q3 ⊢;have M:∀j:Ix,(bR s.k.A [i6 (s.l.ag i).a,h]).has j->j=(0,0)\/j=(0,1):=λj k=>by
   obtain⟨X,a⟩:=k;grind
  refine⟨λr l=>?_,dr.2 ⟨λr l _ j H k N e=>?_,Q3.2⟩⟩
  .rcases ak.1 l with rfl|l
   .refine⟨λj k=>?_,λj k=>?_,λ_ j H k N e=>?_,λg e n z=>by cases z⟩
    .rcases M j k with rfl|rfl
     .exact b0
     .exact b1
    .grind
    grind
   grind
  .have Hg:∃L,L∈(pM s).tail++C/\L.has H/\L.ad H=r.ad H:=by
    rcases ak.1 l with rfl|l
    .grind
    .exact⟨r,by
      rcases dJ.1 l with z|z
      .exact gU _ (List.mem_of_mem_tail z)
      grind,N,rfl⟩
   obtain⟨L,b,a,c⟩:=Hg;refine B L b (.inl rfl) j H ?_ a (by grind);rcases M j k with rfl|rfl
   .exact⟨aD,(by decide:0<2)⟩
   .exact⟨aD,(by decide:1<2)⟩
 rcases KI with ⟨y,⟨V,e2⟩|⟨E',off,U,a,V,e2,a,e4,a,e6⟩⟩
 .exact K S p h {s.eb with c:=0} R Z (q _ (.inr rfl)) ⟨m.jr,⟨y,.inl ⟨V,e2,rfl⟩⟩,λz=>(by cases z),m.fb,m.rm,m.cx⟩ (Q.bD hq _ _).1
 .have hE':E'=s.eb.E:=v _ (UP _ (by rw[V,bS];rfl));subst hE';obtain⟨a,c1,a,c3⟩:=wo (q s.eb (.inl rfl)) (i:=1) rfl D;rw[e4]at c1;cases c1;have a:0<s.eb.n:=by
   rcases t.2 with ⟨_,_,z⟩|⟨_,_,_,_,_,_,z,_⟩
   .omega
   .exact z
  refine K S p h s.eb R Z (q _ (.inl rfl)) ⟨m.jr,⟨y,.inr ⟨off,U,V,D,e2,by omega,a,λj u a=>?_⟩⟩,m.eo,m.fb,m.rm,m.cx⟩ (Q.bD hq _ _).1;have b:=e6 j u a;grind
end
section
variable{R:RN}{σ σ':Gd}{s:PS}
theorem BI{wi:Nat}(l:Co R σ s B)(V:s.q=i::I)(E:lX s.l i t wi\/(s.l.ag i).t=t/\(s.l.ag i).c=0)(tn:t<R.n){eb:mW}{L2:LS}(hag:L2.ag=(s.l.pop i).ag)(Z:L2.al=s.l.al)(H:L2.wl=s.l.wl)(T:∀k,(L2.wt k).l=(s.l.wt k).l/\(L2.wt k).b=(s.l.wt k).b/\(L2.wt k).t=(s.l.wt k).t/\(L2.wt k).x=(s.l.wt k).x)(X:∀k,(L2.wt k).e=(s.l.wt k).e\/∃c,σ.tk t=jm c/\k=c.wn)(D:∀k,(s.l.wt k).e=true->(L2.wt k).e=true)(k:∀c,σ.tk t=jm c->(L2.wt c.wn).e=true)(J:∀j,j≠t->(L2.tk j).a=(s.l.tk j).a/\(L2.tk j).q=(s.l.tk j).q)(U:L2.us=s.l.us)(W:L2.ou=s.l.ou)(D:σ'.tk=cu σ.tk t ld)(G:σ'.dn=σ.dn)(k:∀p∈σ.st,p∈σ'.st)(L:∀p∈σ'.st,p.1.off≠5/\p.1.off≠6/\p.1.block<B')(M:σ.ng<=σ'.ng)(hB:B<=B')(hI:∀j c,j<R.n->j≠t->σ.tk j=jm c->σ'.Inb c.κ=σ.Inb c.κ)(O:∀g e,σ'.Inb g=some e->g≠0->σ.Inb g=some e/\∀c,σ.tk t=jm c->c.κ≠g)(B:∀g x,(σ'.Inb g).isSome->σ'.St g x->wD σ'.st x)(x:σ'.nb+σ'.fr R<=9):Co R σ' {s.bD i I en eb with l:=L2} B':=by
 have C:∀j,j≠t->σ'.tk j=σ.tk j:=λj f=>by rw[D];exact b9 _ _ f
 have p:σ'.tk t=ld:=by rw[D];exact bz ..
 have D:i∈s.q:=by simp_all
 have v:∀j∈I,j∈s.q:=λj f=>by simp_all
 have N:=l.nd;rw[V]at N;obtain⟨d1,d2⟩:=List.nodup_cons.1 N;have p:∀j,(L2.ag j).a=(s.l.ag j).a/\(L2.ag j).t=(s.l.ag j).t/\(L2.ag j).w=(s.l.ag j).w/\(L2.ag j).c=(s.l.ag j).c:=λj=>by
  rw[hag];have:=fW s i j I en eb;simp_all
 have no:∀j∈I,∀w:Nat,(lX s.l j t w\/(s.l.ag j).t=t/\(s.l.ag j).c=0)->False:=λj f w h=>by
  have:=l.DK j (v j f) i D t w wi h E;simp_all
 have up:∀j u w:Nat,(lX L2 j u w\/(L2.ag j).t=u/\(L2.ag j).c=0)->(lX s.l j u w\/(s.l.ag j).t=u/\(s.l.ag j).c=0):=λj u w h=>by
  unfold lX at h ⊢;grind
 have keep:∀j c,j<R.n->j≠t->σ.tk j=jm c->(L2.wt c.wn).e=(s.l.wt c.wn).e:=λj c f d o=>by
  rcases X c.wn with z|⟨D,h,i⟩
  .exact z
  .have X:=(l.pk j c f o).wt;have X:=(l.pk t D tn h).wt;grind
 refine⟨l.hk,c7 l.Ku M,aT l.IB hB,c7 l.AB hB,L,λy D=>k y (l.sA y D),λj f=>k _ (l.sT j f),B,λg e o A=>?_,λj c f r=>?_,λj f=>?_,λj f=>?_,d2,λm K=>⟨λQ=>?_,λc Q=>?_⟩,λa ha b hb u wa wb o A=>?_,λw y y Y=>?_,x,λj f Y=>?_,by rw[G];exact l.RE,by rw[G];exact l.dW⟩
 .obtain⟨h,i⟩:=O g e o A;obtain⟨j,c,f,r,i⟩:=l.yN g e h A;grind
 .have d:j≠t:=λz=>by simp_all
  rw[C j d]at r;have P:=l.pk j c f r;exact⟨by rw[hI j c f d r];exact P.yN,P.BW,c7 P.Lu M,k _ P.bg,k _ P.x,by show _<L2.wl;rw[H];exact P.wn,P.wb,by show(L2.wt _).l=_;rw[(T _).1];exact P.wl,by show _->(L2.wt _).b=_;rw[(T _).2.1];exact P.wk,by show(L2.wt _).t=_;rw[(T _).2.2.1];exact P.wt,by show(L2.wt _).e=_;rw[keep j c f d r];exact P.we,by show(L2.tk j).a=_;rw[(J j d).1];exact P.a,by show L2.us j=_;rw[U];exact P.us,by show(L2.tk j).q=_;rw[(J j d).2];exact P.tq,P.eH,P.fl⟩
 .have F:j∈I:=f;obtain⟨m,o,A,h3⟩:=l.jz j (v j F);refine⟨m,o,(p j).2.1.trans A,?_⟩;show((L2.ag j).c=0/\_)\/∃w:Nat,(L2.ag j).w=w/\w<L2.wl/\(((L2.ag j).c=1/\((L2.wt w).x=true\/(L2.wt w).e=true))\/(((L2.ag j).c=1/\(L2.wt w).x=false\/(L2.ag j).c=2/\(L2.wt w).x=true)/\∃q:yH,_/\q.wn=w));rw[(p j).2.2.2,(p j).2.2.1,H];rcases h3 with ⟨S,e⟩|⟨w,S,e,⟨y3,y4⟩|⟨y3,c,y4,y5⟩⟩
  .have d:m≠t:=λz=>no j F 0 (.inr ⟨by rw[A,z],S⟩);simp_all
  .grind
  .have d:m≠t:=λz=>by
    subst z;refine no j F w (.inl ⟨A,S,?_,y3⟩);rw[<-y5];exact(l.pk m c o y4).we
   grind
 .show j<L2.al;rw[Z];exact l.ql j (v j f)
 .have d:m≠t:=λz=>by simp_all
  rw[C m d]at Q;obtain⟨j,f,o,A⟩:=(l.all m K).1 Q;rw[V]at f;rcases ak.1 f with rfl|f
  .exfalso;rcases E with z|z
   .have:=z.1;omega
   omega
  grind
 .have d:m≠t:=λz=>by simp_all
  rw[C m d]at Q;obtain⟨j,f,o⟩:=(l.all m K).2 c Q;rw[V]at f;rcases ak.1 f with rfl|f
  .exfalso;have:=o.1;rcases E with z|z
   .have:=z.1;omega
   omega
  .refine⟨j,f,?_⟩;show lX L2 j m c.wn;unfold lX at o ⊢;grind
 .exact l.DK a (v a ha) b (v b hb) u wa wb (up a u wa o) (up b u wb A)
 .have a:(s.l.wt w).x=false:=by simp_all
  have b:(s.l.wt w).e=false:=by
   grind
  obtain⟨m,c,o,A,h3⟩:=l.wa w (by simp_all) a b;grind
 .have d:j≠t:=λz=>by simp_all
  rw[C j d]at Y;show fu (σ'.dn++R.S) (s.oh j) (L2.ou j).b.ch;rw[G,W];exact l.ed j f Y
theorem N8(f:Co R σ s B)(p:s.q=i::I)(y:∀u w:Nat,¬(lX s.l i u w\/(s.l.ag i).t=u/\(s.l.ag i).c=0))(C:B<=B'){g:mW}:Co R σ (s.bD i I en g) B':=by
 have e:∀j∈I,j∈s.q:=λj d=>by simp_all
 have k:=f.nd;rw[p]at k;have r:=f.mono C;have c:∀j,((s.bD i I en g).l.ag j).t=(s.l.ag j).t/\((s.bD i I en g).l.ag j).w=(s.l.ag j).w/\((s.bD i I en g).l.ag j).c=(s.l.ag j).c:=λj=>by
  have:=fW s i j I en g;omega
 have n:∀j u w:Nat,lX (s.bD i I en g).l j u w↔lX s.l j u w:=λj u w=>by
  unfold lX;rw[(c j).1,(c j).2.1,(c j).2.2];rfl
 refine{r with pk:=λj q d h=>{r.pk j q d h with},jz:=λj d=>?_,ql:=λj d=>f.ql j (e j d),nd:=(List.nodup_cons.1 k).2,all:=λt o=>⟨λh=>?_,λq h=>?_⟩,DK:=λa A b z u x v l m=>?_,wa:=f.wa,ed:=f.ed}
 .rw[(c j).1,(c j).2.1,(c j).2.2];exact f.jz j (e j d)
 .obtain⟨j,d,l,m⟩:=(f.all t o).1 h;rw[p]at d;rcases ak.1 d with rfl|d
  .exact(y t 0 (.inr ⟨l,m⟩)).elim
  grind
 .obtain⟨j,d,l⟩:=(f.all t o).2 q h;grind
 .rw[n,(c a).1,(c a).2.2]at l;rw[n,(c b).1,(c b).2.2]at m;exact f.DK a (e a A) b (e b z) u x v l m
def Gd.nj(σ:Gd)(R:RN)(t κ:Nat):Gd:={σ with Inb:=cu (cu σ.Inb 0 (some (lz R))) κ none,St:=cu σ.St 0 (wD (qd R.k.A R.k.bM R.k.bJ)),tk:=cu σ.tk t ld}
theorem EE(a:Nat)(c:aC)(cs:cO):(lB a c cs).has a:=Seat.one_has.2 rfl
theorem Co.Up(C:Co R σ s B)(H:tZ R){q a:yH}(d:i<R.n)(c:j<R.n)(k:σ.tk i=jm q)(h:σ.tk j=jm a)(e:a.κ=q.κ):j=i:=by
 have g:=(C.pk i q d k).yN;have b:=(C.pk j a c h).yN;rw[e,g]at b;have f:=EE (R.k.aS j) a.c a.cs;rw[<-Option.some.inj b]at f;exact H.ti j c i d (l7 f)
theorem GL(H:tZ R)(f:Co R σ s B)(A:s.q=i::I)(m:t<R.n){q:yH}(u:lX s.l i t q.wn)(c:σ.tk t=jm q)(C:∀j,j<R.n->σ.tk j≠ld)(C:σ.L=σ.pk R)(D:B<=B'){eb:mW}:ud R (σ.nj R t q.κ) {s.bD i I en eb with l:=(s.l.pop i).bV t q.wn} B' t q.κ q.bg:=by
 have h:∀k,((s.l.pop i).bV t q.wn).wt k=if k=q.wn then{s.l.wt k with e:=true} else s.l.wt k:=λk=>by
  show upd s.l.wt q.wn _ k=_;unfold upd;by_cases e:k=q.wn
  .rw[ah e,ah e,e];rfl
  simp_all
 have P:=f.pk t q m c;have r:=P.BW;have f0:(σ.nj R t q.κ).fr R=σ.fr R:=by
  have b:=sumTo_upd σ.tk ld DI m;rw[c]at b;exact b
 have f1:(σ.nj R t q.κ).pk R+1=σ.pk R:=by
  have b:=sumTo_upd σ.tk ld G8 m;rw[c]at b;exact b
 refine⟨BI f A (.inl u) m rfl rfl rfl (λk=>by grind) (λk=>by rw[h k];by_cases e:k=q.wn;exact .inr ⟨q,c,e⟩;exact .inl (by rw[af e])) (λk i=>by rw[h k];split;rfl;exact i) (λo b=>by rw[c]at b;cases b;rw[h,ah rfl]) (λj h=>?_) rfl rfl rfl rfl (λp c=>c) (λp c=>?_) (az _) D (λj o h l b=>?_) (λg e b v=>?_) (λg y b v=>?_) (by rw[f0];exact f.nb),m,bz ..,λj h l=>?_,?_,r,P.Lu,bz ..,P.bg,?_⟩
 .show(upd s.l.tk t _ j).a=_/\(upd s.l.tk t _ j).q=_;unfold upd;simp_all
 .have:=f.st p c;omega
 .show cu (cu σ.Inb 0 _) q.κ none o.κ=_;rw[b9 _ _ (λe=>l (f.Up H m h c b e)),b9 _ _ (by have:=(f.pk j o h b).BW;omega)]
 .have a:cu (cu σ.Inb 0 (some (lz R))) q.κ none g=some e:=b;by_cases x:g=q.κ
  .rw[x,bz]at a;cases a
  .rw[b9 _ _ x,b9 _ _ v]at a;grind
 .have a:(cu (cu σ.Inb 0 (some (lz R))) q.κ none g).isSome:=b;have d:cu σ.St 0 (wD (qd R.k.A R.k.bM R.k.bJ)) g y:=v;show wD σ.st y;by_cases w:g=0
  .subst w;rw[bz]at d;obtain⟨p,c,rfl⟩:=d;exact⟨p,f.sA p c,rfl⟩
  .rw[b9 _ _ w]at d;by_cases z:g=q.κ
   .subst z;rw[bz]at a;cases a
   .rw[b9 _ _ z,b9 _ _ w]at a;exact f.L9 g y a d
 .show cu σ.tk t ld j≠ld;rw[b9 _ _ l];simp_all
 .show cu (cu σ.Inb 0 _) q.κ none 0=_;rw[b9 _ _ (by omega),bz]
 .show σ.L=_;omega
theorem uU(a:t<R.n)(b:σ'.tk=cu σ.tk t ld)(b:σ'.dn=σ.dn)(s:PS):(dD R σ s).Perm (own (R.k.T t) (σ.tk t)++dD R σ' s):=by
 have h:=(uz (R:=R) (tk:=σ.tk) a (b:=false)).append_right (σ.dn++R.S);rw[dU]at h;refine List.Perm.trans (eN (gS s) ?_) (fA ..);unfold nD;simp_all
end
section
variable{R:RN}{σ σ':Gd}{s:PS}
theorem Sat.Yd{o:Nat}(h:Sat O w (oR x o [v] true::M))(g:Sat O w' M)(i:w'.cell? ⟨x,o,none⟩=some u)(k:w'.frozen? ⟨x,o,none⟩=false):Sat O w' (oR x o [u] true::M):=by
 have f:=sat_iff.1 h;have H:=f.1 _ (bI ..);have e:∀j:Ix,(oR x o [u] true).has j->j=(0,0):=λj a=>by
  obtain⟨h,h⟩:=a;grind
 refine sat_iff.2 ⟨λr b=>?_,dr.2 ⟨λr b h j d a c=>(dr.1 f.2).1 r b (.inl rfl) j d a c,(sat_iff.1 g).2⟩⟩;rcases ak.1 b with rfl|b
 .exact⟨λj a=>by rw[e j a];exact i,λj a=>by rw[e j a];exact⟨(H.ok (0,0) ⟨aD,aD⟩).1,λ_=>⟨((H.ok (0,0) ⟨aD,aD⟩).2 rfl).1,k⟩⟩,λ_ j d a c _=>by grind,λ_ _ _ z=>by cases z⟩
 .exact(sat_iff.1 g).1 r b
theorem Ga(H:tZ R){f:aj}{a:aV}{b:ay}{c:mW}{z:Int}(p:Co R σ s w.heap.size)(K:∀j,j<R.n->σ.tk j≠ld)(hL:σ.L=σ.pk R)(B:∀j q,j<R.n->σ.tk j=jm q->lV R Post (m+1) j q)(hq:s.q=i::I)(D:t<R.n){q:yH}(L:lX s.l i t q.wn)(J:σ.tk t=jm q)(v:w.heap.size<=f.heap.size)(T:Sat (jO R σ) f (pM {s.bD i I b c with l:=(s.l.pop i).bV t q.wn}++(dO (R.k.T t) q.v false::(q.R++dD R (σ.nj R t q.κ) {s.bD i I b c with l:=(s.l.pop i).bV t q.wn}))))(V:PV (jO R σ) {s.bD i I b c with l:=(s.l.pop i).bV t q.wn} (bA {s.bD i I b c with l:=(s.l.pop i).bV t q.wn}))(U:QI {s.bD i I b c with l:=(s.l.pop i).bV t q.wn})(C:Hs R {s.bD i I b c with l:=(s.l.pop i).bV t q.wn})(O:u0 R.k.V R.Lf m t q.wn z ((s.l.pop i).bV t q.wn))(W:BU R.k.A R.k.bM R.k.bJ (R.k.aS t) z (R.cR::R.lT) a):sN R Post σ 0 a f:=by
 have P:=p.pk t q D J;have v:=P.BW;have Z:=mO (cc:=R.cc) H.hA H.iA p.n5;obtain⟨A,hsend,v⟩:=W;refine fP.assume Z λW XP=>?_;have Q:∀X∈R.cc,∃o,f.heap[X]? =some (.chan 0 #[] false o o false):=W.2.1.2;have x:R.k.aS t∈R.cc:=by grind
 obtain⟨Y,N⟩:=v (KD R.wI R.k.A R.cc σ.st) (wD (qd R.k.A R.k.bM R.k.bJ)) f.heap.size f (λw h y r=>h.2.1.1 y (p.sA y r)) (λy r=>⟨⟨y,r,rfl⟩,by have:=(p.st y (p.sA y r)).2.2;omega⟩)
 refine fP.ya (Q':=QD R.k.A) (j:=q.κ) (c:=R.k.aS t) (kk:=0) (s:=lB (R.k.aS t) q.c q.cs) (v:=.int .i64 z) (a₂:=a) Z p.PG
  {kc:=λw k h=>YK (H.it t D) x h
   jh:=by omega
   jn:=P.Lu
   hj:=P.yN
   hk:=⟨_,rfl⟩
   run:=A
   send:=⟨.tuple #[],#[],λd m _=>hsend _,by simp⟩
   ch:=Q _ x} (sh:=lz R) (Ak:=wD (qd R.k.A R.k.bM R.k.bJ)) (nh:=Y+1) (xz H.we _) (λl a=>⟨vm a,λz=>?_⟩) (.inl ⟨Y,f,rfl,N⟩) (λX S=>?_) (λg' E X h1 d h3 h4 h5=>?_) (λo Rh u hh d=>?_) (λo u d=>EU d (Kp.chan u) (by simp))
 .obtain⟨y,r,rfl⟩:=a;simp only[qd,ak,bH,or_false]at r;rcases r with rfl|rfl<;>exact oO (by decide) (by decide) z
 .rcases l8 S with rfl|rfl
  .simp_all
  simp_all
 .obtain⟨j,G,M,a,d,d⟩:=p.inj h1 h3 h5;have:=H.tw j M;rcases l8 h4 with e|e
  .omega
  omega
 .have kc:Kp [] f (f.setChan (R.k.aS t) 0 #[] false (o+1) (o+1) false):=Kp.chan u;have h:=GL (B':=(f.setChan (R.k.aS t) 0 #[] false (o+1) (o+1) false).heap.size) (en:=b) (eb:=c) H p hq D L J K hL (by rw[oN];omega);have d:(q.κ==0)=false:=by simp;omega
  have F1:=h.co.Jh (Post:=Post) H q.κ;rw[d]at F1;refine hh z (λg=>sN R Post (σ.nj R t q.κ) q.κ g _) (pE F1 _) ?_;refine(B t q D J).2 (σ.nj R t q.κ) {s.bD i I b c with l:=(s.l.pop i).bV t q.wn} _ h (T.PZ kc) V U C z O ?_ ?_ ?_ P.us ?_ (λj G M a=>?_)
  .show(upd s.l.wt q.wn _ q.wn).l=_;unfold upd;rw[ah rfl];exact P.wl
  .intro e;show(upd s.l.wt q.wn _ q.wn).b=_;unfold upd;rw[ah rfl];exact P.wk e
  .show(upd s.l.tk t _ t).a=_;unfold upd;rw[ah rfl];exact P.a
  .show(upd s.l.tk t _ t).q=_;unfold upd;rw[ah rfl];exact P.tq
  .have F:cu σ.tk t ld j=jm G:=a;by_cases e:j=t
   .rw[e,bz]at F;cases F
   .rw[b9 _ _ e]at F;exact(B j G M F).1
theorem HG{L:LS}{k n:Nat}(h:yV q L.wl L.wt k):yV q (L.bV t n).wl (L.bV t n).wt k:=by
 have e:∀w,((L.bV t n).wt w).l=(L.wt w).l/\((L.bV t n).wt w).x=(L.wt w).x/\(((L.bV t n).wt w).e=false->(L.wt w).e=false):=λw=>by
  simp only[LS.bV,upd];grind
 exact⟨h.pN,λw a=>⟨(h.mem w a).1,by rw[(e w).1];exact(h.mem w a).2⟩,λw b a a a=>h.all w b (by simp_all) (by simp_all) ((e w).2.2 a)⟩
theorem LU(H:tZ R)(IH:∀m',m'<m+1->p7 R Post m')(J:Co R σ s w.heap.size)(OJ:∀j,j<R.n->σ.tk j≠ld)(Ra:σ.Inb 0=none)(hL:σ.L=σ.pk R)(hS:Sat (jO R σ) w (pM s++dD R σ s))(hP:PV (jO R σ) s (bA s))(hQ:QI s)(Q9:Hs R s)(KH:qo R.k.A (R.cR::R.lT) g)(DD:∀j q,j<R.n->σ.tk j=jm q->lV R Post (m+1) j q)(hq:s.q=i::I)(X:t<R.n){q:yH}(D:lX s.l i t q.wn)(hp:σ.tk t=jm q)(K:u0 R.k.V R.Lf m t q.wn (s.l.ag i).c ((s.l.pop i).bV t q.wn)):sN R Post σ 0 g w:=by
 have P:=J.pk t q X hp;have F:aB prog true (DX (jO R σ)) (sN R Post σ 0):=J.Jh (Post:=Post) H 0;have WH:s.k.A=R.k.A:=by rw[J.hk]
 have hi:i∈s.q:=by simp_all
 have S:=J.Gi H hP.cx;have m:∀k,((s.l.pop i).bV t q.wn).wt k=if k=q.wn then{s.l.wt k with e:=true} else s.l.wt k:=λk=>by
  show upd s.l.wt q.wn _ k=_;unfold upd;by_cases e:k=q.wn
  .rw[ah e,ah e,e];rfl
  simp_all
 have UC:∀r∈gS s,r∈pM s++dD R σ s:=λr hr=>gF _ (gU _ hr);have Xp:=og s P.wn;have UX:wR s q.wn=[oR q.x 1 [i6 (nJ (s.l.wt q.wn))] true,oR q.x 0 [ptr (R.k.T t)] false]:=by
  unfold wR;rw[P.wb,P.wt,J.hk,mY]
 rw[UX]at Xp;have N:∀b c,Hs R {s.bD i I b c with l:=(s.l.pop i).bV t q.wn}:=λb c k hk h5=>HG (L:=s.l.pop i) (Q9 k hk h5);have XO:∀b c,QI (s.bD i I b c)->QI {s.bD i I b c with l:=(s.l.pop i).bV t q.wn}:=λb c Q=>⟨Q.lt,Q.all,Q.pN,Q.ws,Q.cv,λw k=>by
  obtain⟨u,y,W⟩:=Q.wt w k;refine⟨u,y,?_⟩;show(((s.l.pop i).bV t q.wn).wt w).t=_;rw[m w];split<;>exact W⟩
 have k:∀b c,wX {s.bD i I b c with l:=(s.l.pop i).bV t q.wn} q.wn=wX s q.wn:=λb c=>by
  unfold wX;show gA s++(((List.range s.l.wl).flatMap λj=>if j=q.wn then[]else wR {s.bD i I b c with l:=(s.l.pop i).bV t q.wn} j)++s.cx)=_;congr 3;funext j;by_cases e:j=q.wn
  .simp_all
  .rw[af e,af e];unfold wR;simp_all
 have k:∀b c,wR {s.bD i I b c with l:=(s.l.pop i).bV t q.wn} q.wn=[oR q.x 1 [i6 (nJ {s.l.wt q.wn with e:=true})] true,oR q.x 0 [ptr (R.k.T t)] false]:=λb c=>by
  unfold wR;show[oR (s.wb q.wn) 1 [i6 (nJ (((s.l.pop i).bV t q.wn).wt q.wn))] true,oR (s.wb q.wn) 0 [ptr (s.k.T (((s.l.pop i).bV t q.wn).wt q.wn).t.toNat)] false]=_;rw[m,ah rfl,P.wb,J.hk];show[_,oR q.x 0 [ptr (R.k.T (s.l.wt q.wn).t.toNat)] false]=_;rw[P.wt,mY]
 have k:∀b c,(gS {s.bD i I b c with l:=(s.l.pop i).bV t q.wn}).Perm (oR q.x 1 [i6 (nJ {s.l.wt q.wn with e:=true})] true::oR q.x 0 [ptr (R.k.T t)] false::wX s q.wn):=λb c=>by
  have:=og {s.bD i I b c with l:=(s.l.pop i).bV t q.wn} (i:=q.wn) P.wn;simp_all
 have pA:∀(b:ay)(c:mW),(pM (s.bD i I b c)++dD R σ s).Perm (oR q.x 1 [i6 (nJ (s.l.wt q.wn))] true::oR q.x 0 [ptr (R.k.T t)] false::(pM (s.bD i I b c)++(dO (R.k.T t) q.v false::(q.R++(wX s q.wn++nD R (σ.nj R t q.κ)))))):=λb c=>by
  have y:=uU (σ':=σ.nj R t q.κ) X rfl rfl s;rw[hp]at y;refine(y.append_left _).trans ?_;have W:=Xp.append_right (nD R (σ.nj R t q.κ));refine List.Perm.trans (eN _ (eN _ W)) ?_;have m:=fA (pM (s.bD i I b c)++(dO (R.k.T t) q.v false::q.R)) [oR q.x 1 [i6 (nJ (s.l.wt q.wn))] true,oR q.x 0 [ptr (R.k.T t)] false] (wX s q.wn++nD R (σ.nj R t q.κ));simpa [own]using m
 have pB:∀(b:ay)(c:mW),(oR q.x 1 [i6 (nJ {s.l.wt q.wn with e:=true})] true::oR q.x 0 [ptr (R.k.T t)] false::(pM (s.bD i I b c)++(dO (R.k.T t) q.v false::(q.R++(wX s q.wn++nD R (σ.nj R t q.κ)))))).Perm (pM {s.bD i I b c with l:=(s.l.pop i).bV t q.wn}++(dO (R.k.T t) q.v false::(q.R++dD R (σ.nj R t q.κ) {s.bD i I b c with l:=(s.l.pop i).bV t q.wn}))):=λb c=>by
  show List.Perm _ (pM (s.bD i I b c)++_);have W:=((k b c).append_right (nD R (σ.nj R t q.κ))).symm;refine List.Perm.trans ?_ (eN _ (List.Perm.cons _ (eN _ W)));have m:=fA [oR q.x 1 [i6 (nJ {s.l.wt q.wn with e:=true})] true,oR q.x 0 [ptr (R.k.T t)] false] (pM (s.bD i I b c)++(dO (R.k.T t) q.v false::q.R)) (wX s q.wn++nD R (σ.nj R t q.κ));simp_all
 have f:∀{o:Nat}{v:ay}{wr:Bool},(oR q.x o [v] wr).has (0,0):=⟨aD,aD⟩;have L:=(H.eH (BZ X)).nH t X;rcases D.2.2.2 with ⟨hc,Y⟩|⟨hc,Y⟩
 .have T:nJ (s.l.wt q.wn)=0:=by unfold nJ;rw[Y,P.we];rfl
  have M:nJ {s.l.wt q.wn with e:=true}=1:=by unfold nJ;simp[Y]
  have he:(fF s i).2=.func (.func 144) #[ptr q.x] #[]:=by
   unfold fF;simp only[hc,D.2.1,mY,P.wb];rfl
  rw[hc]at K;refine AR F (λa wr h=>J.hB H a wr h) hS hP S hQ hq (by simp_all;omega) he func144 (by rfl) (by rfl) λfr w1 b c G k1 l d V=>?_;rw[WH]at G;have y:=l.perm (pA b c);rw[T]at y;have A:=y.mem (bI ..);have B:=y.mem (aP _ (bI ..));have E:∀{r},Has R.S r->Has (oR q.x 1 [i6 0] true::oR q.x 0 [ptr (R.k.T t)] false::(pM (s.bD i I b c)++(dO (R.k.T t) q.v false::(q.R++(wX s q.wn++nD R (σ.nj R t q.κ)))))) r:=λh=>((((((h.app _).app _).app _).app _).cons.app _).cons).cons;have k:=A.ok (0,0) f;have w:=Has.sat y (E L);obtain⟨_,C,p⟩:=E L;have v:=y.val C _ p (0,3) ⟨aD,(by decide:3<4)⟩;have m:=(y.ok C _ p (0,3) ⟨aD,(by decide:3<4)⟩).1;have u:q.x≠R.k.T t:=λe=>y.dj (bI ..) (gO p) rfl rfl f (j':=(0,1)) ⟨aD,(by decide:1<4)⟩ (by simp_all);refine LR F R.k.A (R.k.T t) q.x R.k.bM R.k.bJ (R.k.aS t) fr (R.cR::R.lT) w1 G (B.val (0,0) f) (A.val (0,0) f) (k.2 rfl).2 w v (B.ok (0,0) f).1 k.1 (k.2 rfl).1 (Has.rd y (E L)) m u (λa k hG k2 k m=>?_);have Z:=k1.size;have u:=k2.size;refine Ga H J OJ hL DD hq X D hp (by omega) ?_ ⟨d.jr,d.en,d.eo,d.fb,d.rm,d.cx⟩ (XO b c V) (N b c) K hG;refine Sat.perm ?_ (pB b c);rw[M];refine y.Yd ?_ k m;have W:=(dr.1 (sat_iff.1 y).2).1;have hr:∀r∈pM (s.bD i I b c)++dD R σ s,∀g e n,r.row=some (g,e,n)->q.x≠g:=by
   obtain⟨k,O⟩:=lP ((pA b c).mem_iff.2 (aP _ (bI ..)));exact l9 (b:=q.x) l d S O (λz=>by subst z;have h9:=cT (λo=>o.map aH.wr) O;cases h9) (λz=>by subst z;have h9:=cT (λo=>o.map aH.wr) O;cases h9) (j0:=(0,0)) f rfl
  refine y.tail.kp k2 (λr k j m z=>?_) (λr k g e n e x Y=>?_)
  .simp only[ak,bH,or_false]at z;exact W r k (.inl rfl) (0,0) j f m z.symm
  grind
 .have T:nJ (s.l.wt q.wn)=2:=by unfold nJ;rw[Y];rfl
  have M:nJ {s.l.wt q.wn with e:=true}=2:=by unfold nJ;simp[Y]
  obtain⟨k,j,e,e,U⟩:=hQ.cv i hi hc;rw[D.2.1,mY,P.wb]at U;have he:(fF s i).2=.func (.func 183) #[] #[ptr k,ptr j]:=by
   unfold fF;simp_all
  rw[hc]at K;refine AR F (λa wr h=>J.hB H a wr h) hS hP S hQ hq (by simp_all;omega) he func183 (by rfl) (by rfl) λfr w1 b c G k1 l d V=>?_;rw[WH]at G;have y:=l.perm (pA b c);rw[T]at y;have A:=y.mem (bI ..);have B:=y.mem (aP _ (bI ..));have g:∀{r},Has s.cx r->Has (pM (s.bD i I b c)++dD R σ s) r:=λh=>(((h.app (wS s)).app (gA s)).pre _).app _;have E:∀{r},Has R.S r->Has (pM (s.bD i I b c)++dD R σ s) r:=λh=>(((h.app σ.dn).app _).app _).app _;obtain⟨_,C,p⟩:=E L;refine LZ F R.k.A (R.k.T t) q.x R.k.bM R.k.bJ (R.k.aS t) k j 2 fr (R.cR::R.lT) w1 G (by have:=Has.sat l (g e);simp_all) (Has.sat l (g U)) (B.val (0,0) f) (A.val (0,0) f) (l.val C _ p (0,3) ⟨aD,(by decide:3<4)⟩) (Has.rd l (g e)) (Has.rd l (g U)) (B.ok (0,0) f).1 (A.ok (0,0) f).1 (l.ok C _ p (0,3) ⟨aD,(by decide:3<4)⟩).1 λa hG=>?_;have Z:=k1.size;refine Ga H J OJ hL DD hq X D hp Z ?_ ⟨d.jr,d.en,d.eo,d.fb,d.rm,d.cx⟩ (XO b c V) (N b c) K hG;refine Sat.perm ?_ (pB b c);simp_all
theorem MT(H:tZ R)(E:∀c,c<m+1->p7 R Post c){n:Nat}(f:Co R σ s w.heap.size)(l:∀j,j<R.n->σ.tk j≠ld)(r:σ.Inb 0=none)(C:σ.L=σ.pk R)(t:Sat (jO R σ) w (pM s++dD R σ s))(d:PV (jO R σ) s (bA s))(x:QI s)(p:Hs R s)(c:qo R.k.A (R.cR::R.lT) g)(k:∀j q,j<R.n->σ.tk j=jm q->lV R Post (m+1) j q)(v:s.q=i::I)(o:(s.l.ag i).c=1)(e:(s.l.ag i).w=(n:Int))(A:n<s.l.wl)(c:(s.l.wt n).x=true\/(s.l.wt n).e=true)(B:Fin R.k.V R.Lf m none (s.l.pop i)):sN R Post σ 0 g w:=by
 have F:aB prog true (DX (jO R σ)) (sN R Post σ 0):=f.Jh (Post:=Post) H 0;have c:s.k.A=R.k.A:=by rw[f.hk]
 have z:nJ (s.l.wt n)≠0:=by
  unfold nJ;grind
 have g:(fF s i).2=.func (.func 144) #[ptr (s.wb n)] #[]:=by
  unfold fF;simp only[o,e,mY];rfl
 refine AR F (λa wr h=>f.hB H a wr h) t d (f.Gi H d.cx) x v (by simp_all;omega) g func144 (by rfl) (by rfl) λD t d e b y a o g=>?_;rw[c]at b;have x:oR (s.wb n) 1 [i6 (nJ (s.l.wt n))] true∈pM (s.bD i I d e)++dD R σ s:=gF _ (gU _ ((og s A).mem_iff.2 (gU _ (by simp[wR]))));have c:(oR (s.wb n) 1 [i6 (nJ (s.l.wt n))] true).has (0,0):=⟨aD,aD⟩;refine MS F R.k.A (s.wb n) (nJ (s.l.wt n)) D (R.cR::R.lT) t b z ((a.mem x).val (0,0) c) ((a.mem x).ok (0,0) c).1 λg' c=>E m (gr _) σ (s.bD i I d e) t g' (N8 f v (λu w h=>?_) y.size) l r C a o g p B (λj q a h=>(k j q a h).1) c;rcases h with ⟨_,a,c,c⟩|⟨_,a⟩
 .have:w=n:=by omega
  simp_all
 .omega
end
section
variable{R:RN}{σ σ':Gd}{s:PS}
def Gd.begun(σ:Gd)(R:RN)(t X bg:Nat):Gd:={st:=(⟨X,0,none⟩,ptr R.k.A)::(⟨bg,0,none⟩,KX R.k.A)::σ.st,ng:=σ.ng+1,L:=σ.L+1,nb:=σ.nb+1,Inb:=cu σ.Inb 0 (some (lz R)),St:=cu σ.St 0 (wD ((⟨X,0,none⟩,ptr R.k.A)::qd R.k.A R.k.bM R.k.bJ)),tk:=cu σ.tk t ld,dn:=σ.dn}
theorem Co.o9(e:Co R σ s B)(c:t<R.n)(d:σ.tk t=none):σ.nb<=8:=by
 have b:=Go.ConcN.le_sumTo (f:=λj=>DI (σ.tk j)) c;simp only[d,DI]at b;have a:=e.nb;simp only[Gd.fr]at a;have c:DI none=1:=rfl;simp only[DI]at b a ⊢;omega
theorem Co.Xf(a:Co R σ s B):σ.Inb σ.ng=none:=by
 cases e:σ.Inb σ.ng with
 |none=>rfl
 |some x=>
  have b:=a.Ku;obtain⟨j,q,c,b,d⟩:=a.yN _ x e (by omega);have:=(a.pk j q c b).Lu;omega
theorem Dk(H:tZ R)(l:Co R σ s B)(z:s.q=i::I)(x:(s.l.ag i).t=(t:Int))(A:(s.l.ag i).c=0)(n:t<R.n)(u:σ.tk t=none)(w:∀j,j<R.n->σ.tk j≠ld)(C:σ.L=σ.pk R)(D:B<=B')(w:X<B')(w:bg<B'){eb:mW}:ud R (σ.begun R t X bg) (s.bD i I en eb) B' t σ.ng bg:=by
 have w:=l.Ku;have f0:(σ.begun R t X bg).fr R+1=σ.fr R:=by
  have b:=sumTo_upd σ.tk ld DI n;rw[u]at b;exact b
 have f1:(σ.begun R t X bg).pk R=σ.pk R:=by
  have b:=sumTo_upd σ.tk ld G8 n;rw[u]at b;exact b
 have c:∀p∈σ.st,p∈(σ.begun R t X bg).st:=λp a=>aP _ (aP _ a);refine⟨BI (wi:=0) (L2:=s.l.pop i) l z (.inr ⟨x,A⟩) n rfl rfl rfl (λk=>⟨rfl,rfl,rfl,rfl⟩) (λk=>.inl rfl) (λk h=>h) (λo b=>by simp_all) (λj q=>⟨rfl,rfl⟩) rfl rfl rfl rfl c (λp a=>?_) (Nat.le_succ _) D (λj o q m b=>?_) (λg e b r=>?_) (λg y b r=>?_) (by have:=l.nb;show σ.nb+1+_<=9;omega),n,bz ..,λj q m=>?_,bz σ.Inb 0 _,w,gr _,?_,aP _ (bI ..),?_⟩
 .rcases ak.1 a with rfl|a
  .simp_all
  .rcases ak.1 a with rfl|a
   .simp_all
   .have:=l.st p a;omega
 .show cu σ.Inb 0 _ o.κ=_;rw[b9 _ _ (by have:=(l.pk j o q b).BW;omega)]
 .have f:cu σ.Inb 0 (some (lz R)) g=some e:=b;rw[b9 _ _ r]at f;simp_all
 .have f:(cu σ.Inb 0 (some (lz R)) g).isSome:=b;have d:cu σ.St 0 (wD ((⟨X,0,none⟩,ptr R.k.A)::qd R.k.A R.k.bM R.k.bJ)) g y:=r;by_cases v:g=0
  .subst v;rw[bz]at d;obtain⟨p,a,rfl⟩:=d;rcases ak.1 a with rfl|a
   .exact⟨_,bI ..,rfl⟩
   .exact⟨p,c p (l.sA p a),rfl⟩
  .rw[b9 _ _ v]at f d;obtain⟨p,a,rfl⟩:=l.L9 g y f d;exact⟨p,c p a,rfl⟩
 .show cu σ.tk t ld j≠ld;rw[b9 _ _ m];simp_all
 .show cu σ.Inb 0 _ σ.ng=none;rw[b9 _ _ (by omega)];exact l.Xf
 .show σ.L+1=_;rw[C,f1]
theorem HU(H:tZ R)(IH:∀m',m'<m+1->p7 R Post m')(u:Co R σ s w.heap.size)(OJ:∀j,j<R.n->σ.tk j≠ld)(Ra:σ.Inb 0=none)(hL:σ.L=σ.pk R)(hS:Sat (jO R σ) w (pM s++dD R σ s))(hP:PV (jO R σ) s (bA s))(hQ:QI s)(Q9:Hs R s)(KH:qo R.k.A (R.cR::R.lT) g)(DD:∀j q,j<R.n->σ.tk j=jm q->lV R Post (m+1) j q)(hq:s.q=i::I)(ht:(s.l.ag i).t=(t:Int))(A:t<R.n)(J:σ.tk t=none)(hc:(s.l.ag i).c=0)(W:Fin R.k.V R.Lf m (some (t,0,none)) (s.l.pop i)):sN R Post σ 0 g w:=by
 have GG:=mO (cc:=R.cc) H.hA H.iA u.n5;have V:=u.o9 A J;have F0:∀dl L q,q<=9->aB prog true (DX (jO R σ)) (fP prog Post (KD R.wI R.k.A R.cc σ.st) (QD R.k.A) (jq R.l) σ.St σ.Inb (hU R.k.A) L q 0 σ.ng dl):=λdl L q P=>Rm H.hA H.iA P u.n5 u.L9 0;have F:aB prog true (DX (jO R σ)) (sN R Post σ 0):=F0 0 σ.L σ.nb (by omega);have q:s.k.A=R.k.A:=by rw[u.hk]
 have L:(fF s i).2=.func (.func 50) #[] #[ptr (R.ba t),ptr (R.bt t),ptr (R.bw t)]:=by
  unfold fF;simp only[hc,ht,mY,u.hk,if_true];exact H.sc t A
 refine AR F (λa wr h=>u.hB H a wr h) hS hP (u.Gi H hP.cx) hQ hq (by simp_all;omega) L func50 (by rfl) (by rfl) λfr M f n Y L o hP1 hQ1=>?_;rw[q]at Y;have q:=L.size;have q:∀{r},Has R.S r->Has (pM (s.bD i I f n)++dD R σ s) r:=λh=>(((h.app σ.dn).app _).app _).app _
 refine HT F R.k.A (R.k.T t) R.k.bM R.k.bJ (R.ba t) (R.bt t) (R.bw t) _ fr (R.cR::R.lT) M Y (Has.sat o (q (H.OO t A))) (Has.sat o (q (H.TB t A))) (Has.sat o (q (H.TA t A))) (Has.rd o (q (H.OO t A))) (Has.rd o (q (H.TB t A))) (Has.rd o (q (H.TA t A))) (λa wr h=>u.hB H a wr (by omega))
  (λc yR v X C B bg K M5 k2 q cX cbt cbw XH cbf=>?_)
 have F:=k2.size;have bX:=q X (by simp);have bT:=q C (by simp);have bG:=q bg (by simp);have bW:=q B (by simp);have bF:=q K (by simp);have hss:∀l,nG σ.St (λg=>(σ.Inb g).isSome) l->¬jq R.l l:=λy ⟨q,Q,h2⟩ ⟨A',_,z⟩=>by
  obtain⟨p,hp,rfl⟩:=u.L9 q y Q h2;have:=u.st p hp;grind
 refine Oq R.k.A GG V Ko F0 hss (λw h=>h.2.2.1) (λw h=>h.2.2.2.2) c yR v ?_;refine M5 (λg=>fP prog Post (KD R.wI R.k.A R.cc σ.st) (QD R.k.A) (jq R.l) σ.St σ.Inb (hU R.k.A) (σ.L+1) (σ.nb+1) 0 σ.ng 0 g v) (pE (F0 0 (σ.L+1) (σ.nb+1) (by omega)) v) (λa ⟨U,a,G,T⟩=>?_);refine fP.assume GG (λa c=>?_);have S:=Dk (B':=v.heap.size) (X:=X) (bg:=bg) (en:=f) (eb:=n) H u hq ht hc A J OJ hL (by omega) bX.2 bG.2;have X9:=mO (cc:=R.cc) H.hA H.iA S.co.n5;have c:KD R.wI R.k.A R.cc (σ.begun R t X bg).st v:=⟨a.1,vT cX (vT XH a.2.1),a.2.2⟩;refine fP.less X9 (λw h=>⟨h.1,FI (λy x=>aP _ (aP _ x)) (λ_ h=>h) h.2.1,h.2.2⟩) c ?_;have c:∀c'∈R.cc,∃c,v.heap[c']? =some (.chan 0 #[] false c c false):=a.2.1.2;have D:∀y∈((⟨X,0,none⟩,ptr R.k.A)::qd R.k.A R.k.bM R.k.bJ:oJ),y∈(σ.begun R t X bg).st:=λy x=>by
  rcases ak.1 x with rfl|x
  .exact bI ..
  .exact aP _ (aP _ (u.sA y x))
 obtain⟨nh,hgo⟩:=T (KD R.wI R.k.A R.cc (σ.begun R t X bg).st) (wD ((⟨X,0,none⟩,ptr R.k.A)::qd R.k.A R.k.bM R.k.bJ)) v.heap.size v (λw h y x=>h.2.1.1 y (D y x)) (λy x=>⟨⟨y,x,rfl⟩,(S.co.st y (D y x)).2.2⟩);refine fP.hire (es:=#[]) X9 (by omega) U (λd m _=>G _) (by simp) (sh:=lz R) (Ak:=wD ((⟨X,0,none⟩,ptr R.k.A)::qd R.k.A R.k.bM R.k.bJ)) (nh:=nh+1) (xz H.we _) (λl a=>⟨vm a,λz=>?_⟩) (.inl ⟨nh,v,rfl,hgo⟩) (λc' I9=>?_) (λg' E c' Q h2 h3 h4=>?_) u.Xf ?_
 .obtain⟨y,x,rfl⟩:=a;have:=S.co.st y (D y x);obtain⟨A',_,z⟩:=z;grind
 .rcases l8 I9 with rfl|rfl
  .simp_all
  simp_all
 .obtain⟨j,q1,O,d,a,a⟩:=u.inj Q h2 h4;have:=H.tw j O;rcases l8 h3 with e|e
  .omega
  omega
 let N:List aH:=[oR X 0 [ptr R.k.A] false,oR bg 0 [KX R.k.A] false,oR C 0 [ptr (R.k.T t)] false,oR B 0 [.func (.func 37) #[] #[ptr R.bl,ptr R.bo,ptr (R.bi t)]] false,oR K 0 [.func (.func 62) #[] #[ptr B,ptr C,ptr X]] false]
 have g:Flat N:=by
  rw[bO];grind
 have l:Sat (jO R σ) v (pM (s.bD i I f n)++(dO (R.k.T t) (.pointer none) false::((N++R.S)++dD R (σ.begun R t X bg) s))):=by
  have Q:Sat (jO R σ) M (pM (s.bD i I f n)++(dO (R.k.T t) (.pointer none) false::dD R (σ.begun R t X bg) s)):=by
   have:=o.perm ((uU (σ':=σ.begun R t X bg) A rfl rfl s).append_left _);rw[J]at this;exact this
  have a:∀r∈pM (s.bD i I f n)++(dO (R.k.T t) (.pointer none) false::dD R (σ.begun R t X bg) s),∀j,r.has j->(r.ad j).block<M.heap.size:=λr a j O=>Q.blk a O;have c:∀b,M.heap.size<=b->jO R σ ⟨b,0,none⟩ false:=λb x=>u.hB H _ _ (by grind);have h2:=Q.PZ k2;have h3:Sat (jO R σ) v (N++(pM (s.bD i I f n)++(dO (R.k.T t) (.pointer none) false::dD R (σ.begun R t X bg) s))):=by
   have ne:∀(Z:aW),(∀r∈Z,r.wr=false)->∀b,M.heap.size<=b->∀r∈Z++(pM (s.bD i I f n)++(dO (R.k.T t) (.pointer none) false::dD R (σ.begun R t X bg) s)),r.wr=true->∀j,r.has j->(r.ad j).block≠b:=λZ h b x r a w j O e=>by
    grind
   have p:=h2.Yr cbf (c _ bF.1) (ne [] (by simp) _ bF.1);have h:=p.Yr cbw (c _ bW.1) (ne [oR K 0 [.func (.func 62) #[] #[ptr B,ptr C,ptr X]] false] (by simp) _ bW.1);have p:=h.Yr cbt (c _ bT.1) (ne [oR B 0 [.func (.func 37) #[] #[ptr R.bl,ptr R.bo,ptr (R.bi t)]] false,oR K 0 [.func (.func 62) #[] #[ptr B,ptr C,ptr X]] false] (by simp) _ bT.1);have h:=p.Yr XH (c _ bG.1) (ne [oR C 0 [ptr (R.k.T t)] false,oR B 0 [.func (.func 37) #[] #[ptr R.bl,ptr R.bo,ptr (R.bi t)]] false,oR K 0 [.func (.func 62) #[] #[ptr B,ptr C,ptr X]] false] (by simp) _ bG.1);exact h.Yr cX (c _ bX.1) (ne [oR bg 0 [KX R.k.A] false,oR C 0 [ptr (R.k.T t)] false,oR B 0 [.func (.func 37) #[] #[ptr R.bl,ptr R.bo,ptr (R.bi t)]] false,oR K 0 [.func (.func 62) #[] #[ptr B,ptr C,ptr X]] false] (by simp) _ bX.1)
  have h4:=h3.Rz (Z:=R.S) λr a=>⟨gF _ (gF _ (aP _ (gF _ (gF _ (gF _ a))))),H.ro r a⟩
  refine h4.perm ?_;have e1:=(D2 (l₁:=R.S) (l₂:=N)).append_right (pM (s.bD i I f n)++(dO (R.k.T t) (.pointer none) false::dD R (σ.begun R t X bg) s));rw[dU]at e1;refine e1.trans ?_;have:=fA (N++R.S) (pM (s.bD i I f n)++[dO (R.k.T t) (.pointer none) false]) (dD R (σ.begun R t X bg) s);simp_all
 have p:oR X 0 [ptr R.k.A] false∈pM (s.bD i I f n)++(dO (R.k.T t) (.pointer none) false::((N++R.S)++dD R (σ.begun R t X bg) s)):=gF _ (aP _ (gU _ (gU _ (bI ..))));have u:oR bg 0 [KX R.k.A] false∈pM (s.bD i I f n)++(dO (R.k.T t) (.pointer none) false::((N++R.S)++dD R (σ.begun R t X bg) s)):=gF _ (aP _ (gU _ (gU _ (aP _ (bI ..)))));have q:∀r∈gS (s.bD i I f n),r∈pM (s.bD i I f n)++(dO (R.k.T t) (.pointer none) false::((N++R.S)++dD R (σ.begun R t X bg) s)):=λr a=>gF _ (aP _ (gF _ (gU _ a)));have h:=l.still (u:=KX R.k.A) u;have c:∀b,M.heap.size<=b->∀k,k<(s.bD i I f n).k.V.nl->((s.bD i I f n).k.V.ly k).k=5->((s.bD i I f n).f k).s=true->((s.bD i I f n).f k).g≠b:=λb x k k x b e=>by
  have:=EN (s:=s.bD i I f n) o (λr a=>gF _ (gU _ a)) k x b;omega
 have b:=hP1.still (u:=KX R.k.A) l u q (c _ bG.1);have k:=h.still (u:=ptr R.k.A) p;have l:=b.still (u:=ptr R.k.A) h p q (c _ bX.1);have b:∀{r},r∈N->r.wr=false->Has (N++R.S) r:=λa w=>by
  obtain⟨i,c⟩:=lP a;exact Has.pre (C:=N) ⟨w,i,c⟩ _
 refine L6 (Λ:=m+1) (κ:=σ.ng) (bg:=bg) (R':=N++R.S) (bf:=K) (bw:=B) (bt:=C) (X:=X) (v:=.pointer none) (s:=s.bD i I f n) (m:=m) H IH ⟨σ.begun R t X bg,s.bD i I f n,v.heap.size,m,S,λj q1 O d=>?_,gr m⟩ ⟨k,l,hQ1,(g.app H.fl).app (S.co.flat H),(H.eH (BZ A)).app N,az _,Gu.refl _ _,S.co.hk,Q9⟩ W (az _) (λr a=>a.app N) (b (by simp[N]) rfl) (b (by simp[N]) rfl) (b (by simp[N]) rfl) (b (by simp[N]) rfl);have P:cu σ.tk t ld j=jm q1:=d;by_cases e:j=t
 .rw[e,bz]at P;cases P
 .rw[b9 _ _ e]at P;exact(DD j q1 O P).1
end
section
variable{R:RN}{σ σ':Gd}{s:PS}
def KJ(R:RN)(st:oJ)(wS w:aj):Prop:=KD R.wI R.k.A R.cc st w/\Kp [] wS w [⟨R.k.A,5,none⟩,⟨R.k.A,6,none⟩]/\w.heap.size=wS.heap.size
theorem P0(H:tZ R)(b:∀p∈st,p.1≠⟨R.k.A,5,none⟩)(i:∀p∈st,p.1≠⟨R.k.A,6,none⟩)(a:R.k.A<wS.heap.size):JK (KJ R st wS) (jq R.l) wS.heap.size (hU R.k.A):=by
 have g:=H.iA;refine⟨λw d h=>⟨h.1,⟨h.2.1.size,h.2.1.cellC,h.2.1.Q6,h.2.1.blk⟩,h.2.2⟩,λw v h=>?_,λw v h=>?_,⟨_,H.hA,.inl rfl⟩,⟨_,H.hA,.inr rfl⟩,a,a⟩
 .exact⟨((mO H.hA H.iA b).st w v).2 h.1,h.2.1.Ch rfl (.inr (.inl (by simp[hU]))),by simp[World.setCell,h.2.2]⟩
 .obtain⟨⟨f,e,⟨a,d⟩,c,b,b⟩,k,j⟩:=h;refine⟨⟨A5 g f,(rX i).2 e,⟨a,(qa _ _ _ _ (by simp[hU])).trans d⟩,by rw[YB];exact c,v,D6 _ _ _ b⟩,k.Ch rfl (.inr (.inl (by simp[hU]))),by simp[World.setCell,j]⟩
structure Lq(R:RN)(s:PS)(dn:aW)(w:aj):Prop where
 old:Old R.wI w
 hk:s.k=R.k
 l:s.l=R.Lf
 AB:R.k.A<w.heap.size
 sat:Sat (cP R.wI.heap.size R.l []) w (pM s++(dn++R.S))
 pv:PV (cP R.wI.heap.size R.l []) s (bA s)
 fl:Flat (dn++R.S)
 dW:∃Y,dn=Y++R.W
 ch:∀j,j<R.n->fu (dn++R.S) (s.oh j) (s.l.ou j).b.ch
def J0(R:RN)(Post:qz):Prop:=∀ng s dn w',0<ng->Lq R s dn w'->nM prog Post (Old R.wI) (jq R.l) ng (G (R.cR.finish (.tuple #[])) R.lT) w'
theorem MX(H:tZ R)(M:J0 R Post)(l:Co R σ s w.heap.size)(OJ:∀j,j<R.n->σ.tk j≠ld)(Ra:σ.Inb 0=none)(hL:σ.L=σ.pk R)(S:Sat (jO R σ) w (pM s++dD R σ s))(f:PV (jO R σ) s (bA s))(hQ:QI s)(KH:qo R.k.A (R.cR::R.lT) g)(Z:s.q=[])(hl:s.l=R.Lf):sN R Post σ 0 g w:=by
 have m:∀j,j<R.n->σ.tk j=Da:=λj t=>by
  rcases En (σ.tk j)with e|⟨q,e⟩|e|e
  .obtain⟨i,K,_⟩:=(l.all j t).1 e;rw[Z]at K;cases K
  .obtain⟨i,K,_⟩:=(l.all j t).2 q e;rw[Z]at K;cases K
  .exact absurd e (OJ j t)
  .exact e
 have P:σ.Inb=λ_=>none:=by
  funext x;by_cases A:x=0
  .rw[A];exact Ra
  .cases e:σ.Inb x with
   |none=>rfl
   |some y=>
    obtain⟨j,q,t,B,_⟩:=l.yN x y e A;rw[m j t]at B;cases B
 have nI:σ.L=0:=by
  rw[hL];have:∀n,n<=R.n->sumTo n (λj=>G8 (σ.tk j))=0:=λn=>by
   induction n with
   |zero=>exact λ_=>rfl
   |succ n ih=>intro h;simp only[sumTo];rw[ih (by omega),m n (by omega)];rfl
  exact this _ (az _)
 have D:nu R σ.tk=[]:=by
  unfold nu;rw[List.flatMap_eq_nil_iff];intro j t;rw[m j (aZ.1 t)];rfl
 have I:s.k.A=R.k.A:=by rw[l.hk]
 have i:bA s=[]:=by unfold bA;rw[Z];rfl
 obtain⟨b,U,y⟩:∃b U,s.en=.slice b 0 U:=by
  have:=f.en.2;rw[i]at this;rcases this with ⟨z,_⟩|⟨o,c,z,_⟩
  .exact⟨_,_,z⟩
  .exact⟨_,_,z⟩
 have i:=S.val 0 _ rfl (0,1) ⟨aD,(by decide:1<2)⟩;have c:=S.ok 0 _ rfl (0,1) ⟨aD,(by decide:1<2)⟩;have F:aB prog true (DX (jO R σ)) (sN R Post σ 0):=l.Jh (Post:=Post) H 0;have c:w.cell? ⟨R.k.A,1,none⟩=some (.slice b 0 U):=by rw[<-y,<-I];exact i
 refine N4 F R.k.A R.cR R.lT b U g w KH c ⟨oO (by decide) (by decide),λh=>by cases h⟩ (λy b=>?_);clear F;intro d gs T q sl ds sg W QL hLd X c hd C;rw[nI,bK]at hLd C ⊢;rw[P]at C;have i:=l.PG;have GG:=mO (cc:=R.cc) H.hA H.iA l.n5;have NE:KD R.wI R.k.A R.cc σ.st (w.at d):=(jA GG).1 C.keep;have h6w:ji .u32 ⟨R.k.A,6,none⟩ w 0:=c;have E:R.k.A<w.heap.size:=l.AB
 have i:Kp [] w (Wv (hU R.k.A) (w.at d) ds.length) [⟨R.k.A,5,none⟩,⟨R.k.A,6,none⟩]:=
  Kp.Ch (w':=w.at d) (by exact⟨az _,λ_ _ _ _ h=>h,λ_ _ _ _ _=>rfl,λ_ _ _ _ _ _ h=>h⟩) rfl (.inr (.inl (by simp[hU])))
 have c:KJ R σ.st w (Wv (hU R.k.A) (w.at d) ds.length):=⟨C.keep,i,HC _⟩;have C':=C.less (K':=KJ R σ.st w) (λw h=>h.1) c;have J:=P0 (wS:=w) H l.n5 l.n6 E;obtain⟨nm,hWS⟩:=Ce (K:=KJ R σ.st w) (Shun:=jq R.l) (B:=w.heap.size) (Anchor:=λg=>g=G (R.cR.finish (.tuple #[])) R.lT) R.k.A (λw h=>h.1.2.2.1) (λw h=>h.1.2.2.2.2) y (R.cR::R.lT) (λk=>b (λg=>∃n,WS prog (KJ R σ.st w) (jq R.l) w.heap.size (hU R.k.A) (λg=>g=G (R.cR.finish (.tuple #[])) R.lT) k n 8 g) (RR (iW k 8)) ⟨0,WS.Oo rfl rfl⟩) 9 (az _);have Y:ji .u32 (hU R.k.A).se (Wv (hU R.k.A) (w.at d) ds.length) 0:=fN (show ji .u32 (hU R.k.A).se (w.at d) 0 from h6w) (hU R.k.A).ne _;obtain⟨N,b,t',e1,Q,w',v,V,b,rfl,e3,e4,e5,e6,e7,b,b⟩:=P5 J _ 9 _ gs _ sl T q _ false 0 nm ds sg (gv ds.length 0) 0 rfl rfl (by simpa using QL) C' hWS (λz=>by cases z) (by omega) (.inl ⟨.inl ⟨by omega,by omega⟩,X,rfl,rfl⟩) (zg GG NE _) Y hd;obtain⟨k1,k2,k3⟩:=e6.keep;subst e5;have S':=uP (e6.hears e7) k1.1;have u:Sat (cP R.wI.heap.size R.l []) w (pM s++(σ.dn++R.S)):=by
  have e:dD R σ s=gS s++(σ.dn++R.S):=by show gS s++nD R σ=_;unfold nD;rw[D];rfl
  rw[e]at S;exact(S.sub (nN (D8 _ _) _)).OB (λr _ j _ o=>⟨o.1,λz=>by cases z⟩) (λr _ _ j _ o=>⟨o.1,λ_=>⟨(o.2 rfl).1,fun⟨p,hp,_⟩=>by cases hp⟩⟩)
 have up:∀(a:Addr)(wr:Bool),jO R σ a wr->cP R.wI.heap.size R.l [] a wr:=λa wr o=>⟨o.1,λz=>⟨(o.2 z).1,fun⟨p,hp,_⟩=>by cases hp⟩⟩
 have O:PV (cP R.wI.heap.size R.l []) s (bA s):=⟨⟨f.jr.row,f.jr.le,f.jr.mx,λa b c wr d=>up c wr (f.jr.PD a b c wr d)⟩,f.en,λb=>⟨(f.eo b).1,λa wr d=>up a wr ((f.eo b).2 a wr d)⟩,λk b a=>⟨(f.fb k b a).nil,(f.fb k b a).len,λh c wr d=>up c wr ((f.fb k b a).ok h c wr d),(f.fb k b a).val⟩,λk b a=>⟨(f.rm k b a).nil,(f.rm k b a).len,λh c wr d=>up c wr ((f.rm k b a).ok h c wr d),(f.rm k b a).val⟩,f.cx⟩;have L:Flat (σ.dn++R.S):=l.RE.app H.fl;have a:=l9 (b:=s.k.A) u O L (i0:=0) (j0:=(0,0)) rfl (by decide) (by decide) ⟨aD,(by decide:0<2)⟩ rfl
 have hD:Lq R s σ.dn w':=
  {old:=k1.1
   hk:=l.hk
   l:=hl
   AB:=c7 E k2.size
   sat:=u.kp k2 (λr b j t z=>by
    have o:=((u.mem b).ok j t).1.1;simp only[ak,bH,or_false]at z;rcases z with z|z
    .exact o ⟨_,H.hA,.inl (by rw[z])⟩
    .exact o ⟨_,H.hA,.inr (by rw[z])⟩) (λr b g e n c x A=>by
    have:=a r b g e n c;rw[I]at this;simp only[ak,bH,or_false]at A;rcases A with rfl|rfl<;>exact this)
   pv:=O
   fl:=L
   dW:=l.dW
   ch:=λj t=>l.ed j t (m j t)}
 have a:=M σ.ng s σ.dn w' l.Ku hD w'.drawn Q t' V v (e3.trans W) e4 (by rw[k3];exact S');exact Goal.back e1 a
theorem FZ(H:tZ R)(y:J0 R Post):∀m,p7 R Post m:=by
 intro m;induction m using Nat.strongRecOn with
 |_ m L=>
  intro σ s w g B f j E C D r o c l h;cases m with
  |zero=>exact c.elim
  |succ m=>
   obtain⟨_,c⟩:=c;cases n:s.q with
   |nil=>
    rw[Ft r n,ah (by decide)]at c;exact MX H y B f j E C D r h n c
   |cons i I=>
    rw[MK r n,af (by omega)]at c;simp only[mY]at c;obtain⟨t,G,b⟩:=c;obtain⟨p,N,F,x⟩:=B.jz i (by rw[n];simp);have:p=t:=by rw[G]at F;omega
    subst this;rcases b with ⟨t,_,c⟩|⟨wn,O,g,b⟩
    .rcases x with ⟨_,m⟩|⟨_,_,_,⟨z,_⟩|⟨⟨z,_⟩|⟨z,_⟩,_⟩⟩
     .exact HU H (λu d=>L u d) B f j E C D r o h l n G N m t c
     all_goals omega
    .rcases b with ⟨t,m,c⟩|⟨b,v,A,a,c⟩
     .exact MT H (λu d=>L u d) B f j E C D r o h l n t O g m c
     .obtain⟨q,K,J⟩:∃q,σ.tk p=jm q/\q.wn=wn:=by
       rcases x with ⟨z,_⟩|⟨w',Q,b,⟨b,M⟩|⟨_,q,S,P⟩⟩
       .omega
       .have:w'=wn:=by omega
        subst this;rcases A with ⟨_,z⟩|⟨z,_⟩
        .rw[z,v]at M;simp at M
        .omega
       .exact⟨q,S,by omega⟩
      subst J;refine LU H (λu d=>L u d) B f j E C D r o h l n N ⟨G,O,v,A⟩ K ⟨?_,?_⟩
      .have e:((s.l.pop i).bV p q.wn).tk p={(s.l.pop i).tk p with w:=-1}:=by
        show upd _ _ _ _=_;unfold upd;rw[ah rfl]
       exact⟨a.tl,a.tn,a.el,a.wl,a.al,a.now,by rw[e];exact a.tc,by rw[e];exact a.tf,by rw[e];exact a.to,by rw[e];exact a.tx,a.us,a.gt,λk b P Q=>by rw[e];exact a.q k b P Q⟩
      .have e:((s.l.pop i).bV p q.wn).wt q.wn={s.l.wt q.wn with e:=true}:=by
        show upd _ _ _ _=_;unfold upd;rw[ah rfl];rfl
       rw[e];exact c
end
def Oz(R:RN):List (Addr×Value):=qd R.k.A R.k.bM R.k.bJ++(List.range R.n).map λj=>(⟨R.k.T j,3,none⟩,.chan (some (R.k.aS j)))
def yc(R:RN)(ng:Nat):Gd:={st:=Oz R,ng:=ng,L:=0,nb:=0,Inb:=λ_=>none,St:=λ_ _=>False,tk:=λ_=>none,dn:=R.W}
theorem AE(c:Nat):∀n,sumTo n (λ_=>c)=n*c
 |0=>by simp[sumTo]
 |n+1=>by simp only[sumTo,AE c n];rw[YD,Nat.one_mul]
section
variable{R:RN}{s:PS}
theorem Wh(H:tZ R)(J:s.k=R.k)(D:0<ng)(L:R.wI.heap.size<=B)(E:R.k.A<B)(K:∀j,j<R.n->R.k.T j<B)(f:∀i∈s.q,∃t:Nat,t<R.n/\(s.l.ag i).t=t/\(s.l.ag i).c=0)(C:∀i∈s.q,i<s.l.al)(u:∀t:Nat,t<R.n->∃i∈s.q,(s.l.ag i).t=t)(k:s.q.Pairwise λi j=>(s.l.ag i).t≠(s.l.ag j).t)(A:s.l.wl=0):Co R (yc R ng) s B:=by
 have f0:(yc R ng).fr R=R.n:=by show sumTo R.n (λ_=>1)=_;rw[AE,lm]
 have f1:(yc R ng).pk R=0:=by show sumTo R.n (λ_=>0)=_;rw[AE,Nat.mul_zero]
 have B:R.n<=9:=H.V.nc;refine⟨J,D,L,E,λp m=>?_,λy p=>gU _ p,λj o=>gF _ (gV.2 ⟨j,aZ.2 o,rfl⟩),λg x c _=>(by cases c),λg e c=>(by cases c),λj q _ c=>(by cases c),λi n=>?_,C,k.imp λh e=>h (by rw[e]),λt I=>⟨λ_=>?_,λq c=>(by cases c)⟩,λi n j o t g g c F=>?_,λw G=>(by rw[A]at G;cases G),by rw[f0];show 0+R.n<=9;omega,λj _ c=>(by cases c),H.flW,⟨[],rfl⟩⟩
 .rcases dJ.1 m with m|m
  .simp only[qd,ak,bH,or_false]at m;rcases m with rfl|rfl
   .exact⟨(by decide:3≠5),(by decide:3≠6),E⟩
   .exact⟨(by decide:4≠5),(by decide:4≠6),E⟩
  .obtain⟨j,o,rfl⟩:=gV.1 m;exact⟨(by decide:3≠5),(by decide:3≠6),K j (aZ.1 o)⟩
 .obtain⟨t,c,F,g⟩:=f i n;exact⟨t,c,F,.inl ⟨g,rfl⟩⟩
 .obtain⟨i,n,c⟩:=u t I;obtain⟨_,_,_,g⟩:=f i n;exact⟨i,n,c,g⟩
 .have f:(s.l.ag i).t=t:=c.elim (λh=>h.1) (λh=>h.1);have c:(s.l.ag j).t=t:=F.elim (λh=>h.1) (λh=>h.1);refine Classical.byContradiction λe=>?_;obtain⟨a,f⟩:=u9 n;obtain⟨b,c⟩:=u9 o;have P:=HA.1 k;obtain⟨v,l⟩:=lg.1 f;obtain⟨r,d⟩:=lg.1 c;rcases Hu a b with z|z|z
  .have:=P a b v r z;rw[l,d]at this;omega
  .subst z;rw[l]at d;exact e d
  .have:=P b a r v z;rw[l,d]at this;omega
theorem GZ(H:tZ R)(a:J0 R Post)(i:KD R.wI R.k.A R.cc (Oz R) w)(b:QD R.k.A w)(k:ji .u64 ⟨R.k.A,5,none⟩ w 0)(d:Co R (yc R ng) s w.heap.size)(f:Sat (jO R (yc R ng)) w (pM s++dD R (yc R ng) s))(h:PV (jO R (yc R ng)) s (bA s))(g:QI s)(c:Hs R s)(e:Fin R.k.V R.Lf m none s.l):
 nM prog Post (Old R.wI) (jq R.l) ng (G (Frame.enter prog 39 #[ptr R.k.A] .normal) (R.cR::R.lT)) w:=by
 have f1:(yc R ng).pk R=0:=by show sumTo R.n (λ_=>0)=_;rw[AE,Nat.mul_zero]
 have base:sN R Post (yc R ng) 0 (G (Frame.enter prog 39 #[ptr R.k.A] .normal) (R.cR::R.lT)) w:=by
  have F:aB prog true (DX (jO R (yc R ng))) (sN R Post (yc R ng) 0):=d.Jh (Post:=Post) H 0;simp only[enter_at _ func39 rfl,ntmps39];walk_nrm;refine F.sq ?_;refine F.bl ?_;refine F.ctl (λ_=>stepG_loop) ?_;refine FZ H a m (yc R ng) s w _ d (λj _ z=>by cases z) rfl f1.symm f h g c e (λj q _ z=>by cases z) ?_;exact⟨_,_,_,_,_,_,_,_,_,_,_,_,_,_,_,_,_,_,_,_,_,_,_,_,_,_,_,_,_,_,_,_,_,_,rfl⟩
 exact fP.Iy (mO H.hA H.iA d.n5) rfl i b k base
end
end Go.Proofs.YtobagnjnbmgidaaGreatDoor
