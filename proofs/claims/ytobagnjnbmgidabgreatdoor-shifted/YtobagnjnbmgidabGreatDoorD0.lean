import Derived.Test.YtobagnjnbmgidabGreatDoorM8
import Derived.Test.YtobagnjnbmgidabGreatDoorO1
set_option linter.all false
set_option maxHeartbeats 0
set_option maxRecDepth 100000
namespace Go.Proofs.YtobagnjnbmgidabGreatDoor
open Go.Conc Go.RowKit Go.Extern Tryz
open Go.ConcN (sumTo sumTo_upd)
variable{z:Addr}{ats:Array TypeId}{V:Ev0}{L:LS}{N bl U j m n q x:Nat}{α:Type}{C W X:aW}{c cf:aC}{u v:ay}{vs:iO}
variable{P:aG}{main:Bool}{D:yW}{b:aC}{a:Act}{k:eC}{cs:cO}{w wI w':aj}{ops:g8}{i B t B' κ bg:Nat}{rest l cc:aN}{o:Oper}{f:FuncId}{fn:Func}{K:cK}{Ev:Event->Prop}{Gp:qt}{g g' aa3 Rh:aV}{O Wy:dh}{st:oJ}{es:dS}{γ:Type}{J:PK}{Lf:LS->Prop}{M:aW}{Post:qz}{E:TE γ}
section
variable{Q:gi}
def uv{r:Operand}{args:Array Operand}{first U:gd}(c:o.op=.call {callee:=.value r,args,argTypes:=ats})(d:a.eval r=.func (.func f) first U)(e:P.funcs[f]? =some fn)(b:(fn.name== "runtime.NumGoroutine")=false)(j:fn.body.isNone=false)(w:aj):
 (execOp a.eval o).run P w=.ok (.enter f (first++args.map a.eval++U)) w/\(execOp a.eval o).events P w #[]=#[]:=by
 have h:¬fn.name= "runtime.NumGoroutine" :=by simpa using b
 have g:¬fn.body=none:=by cases i:fn.body<;>simp_all
 constructor
 .unfold execOp;simp[c,resolve,Deferred.ofValue,Go.invoke,d,callFunc,e,h,g]
 .unfold execOp;simp[c,resolve,Deferred.ofValue,Go.invoke,d,callFunc,e,h,g]
def aB.Cg(F:aB P main D Q)(m:ops[i]? =some o)(l:Region.wanted o (yielded ops a.tmps)=true)(n:b.kind≠.early){r:Operand}{args:Array Operand}{first U:gd}(d:o.op=.call {callee:=.value r,args,argTypes:=ats})(e:a.eval r=.func (.func f) first U)(g:P.funcs[f]? =some fn)(c:(fn.name== "runtime.NumGoroutine")=false)(j:fn.body.isNone=false)(h:Q (G (Frame.enter P f (first++args.map a.eval++U) .normal) (b.at a (.inRegion ops (i::rest)::k)::cs)) w):Q (G (b.at a (.inRegion ops (i::rest)::k)) cs) w:=
 F.enter m l n (λ_=>(uv d e g c j _).1) (λ_=>(uv d e g c j _).2) h
end
def bot(P:aG):Frame:={(default:aC)with fn:=P.funcs.size,defers:=[],mode:=.panicking [goexitEntry]}
def JU(f:Func):Code:=f.body.getD .skip
def call89(bg bf:Nat):Deferred:={target:=.fn (.func 88) #[.pointer (some ⟨bg,0,none⟩),.pointer (some ⟨bf,0,none⟩)],args:=#[]}
def Od(bg a:Nat)(w:aj):stepG prog false (born prog (call89 bg a)) w=.go (G ((baseD 88).at ⟨#[.pointer (some ⟨bg,0,none⟩),.pointer (some ⟨a,0,none⟩),undef,undef,undef],[]⟩ [.code (JU f88)]) [(bot prog)]) w #[]:=by
 simp[born,call89,stepG,unwind,callDeferred,invoke,callFunc,func88,f88,seen,GStep.after,G,Frame.enter,Frame.at,baseD,bot,JU]
def Il(T:gd):∃n,QuitsD prog n 0 (G {(baseD 88).at ⟨T,[]⟩ []with mode:=.returning} [(bot prog)]):=by
 refine⟨2,QuitsD.ctl (g':=G (bot prog) []) rfl (λw=>?_) ?_⟩
 .simp[G,stepG,unwind,doReturn,results,Frame.at,baseD,bot,func88,f88,seen,GStep.after,goexitEntry]
 refine QuitsD.ctl (g':={G (bot prog) []with status:=.finished}) rfl (λw=>?_) ⟨rfl,rfl⟩;rfl
def tK{fn:FuncId}{ad:Addr}(b:(P.funcs[fn]?).any (·.norace)=true)(c:(execOp a.eval o).events P w #[]=#[⟨.cell ad,false,false⟩]):listed P fn a o w=#[]:=by
 unfold listed;rw[c,seen_def];simp[seenStep,b]
section
variable{Q:kr}{A:Act}
def QF.opn(F:QF P main K Ev Q)(g:ops[i]? =some o)(f:Region.wanted o (yielded ops a.tmps)=true)(m:b.kind≠.early)(d:∀w,K w->listed P b.fn a o w=#[])(h:∀w,K w->uponK o a (λd w'=>w'=w/\d=A) ((execOp a.eval o).run P w))(j:Q (G (b.at A (.inRegion ops rest::k)) cs)):Q (G (b.at a (.inRegion ops (i::rest)::k)) cs):=by
 refine F.step _ _ rfl (λw n=>⟨#[],?_,λe l=>by simp at l⟩) j;have:=goes_oper_k (P:=P) (main:=main) (k:=k) (cs:=cs) (rest:=rest) (K:=λg' w' es=>g'=G (b.at A (.inRegion ops rest::k)) cs/\w'=w/\es=listed P b.fn a o w) g f m (λe c=>uponK_mono (λd w' x=>by obtain⟨rfl,rfl⟩:=x;exact c _ _ ⟨rfl,rfl,rfl⟩) (h w n));revert this;cases stepG P main (G (b.at a (.inRegion ops (i::rest)::k)) cs) w<;>intro this
 case go g' w' es=>simp_all
 all_goals exact this.elim
end
structure Sq(A bJ bg:Nat)(a:aV):Prop where
 run:a.status=.running
 send:∀W,stepG prog false a W=.comm a #[scase bJ (.agg #[]) (.tuple #[])] true .send W #[]
 dp:∀K:World->Prop,(∀W,K W->∃v,W.cell? ⟨A,5,none⟩=some v)->(∀W,K W->W.cell? ⟨bg,0,none⟩=some (.pointer (some ⟨A,5,none⟩)))->∃n,DP prog K (hU A) n 0 (Go.Conc.served a undef)
section
def mu{a:Addr}{m:Mode}(f:Fn)(x y:gd):(store a (.func f x y) m).events P w es=storedEv P w es a (.func f x y) m:=events_store P w es a _ m rfl
def xD(P:aG)(w:aj)(a:Addr)(m:Mode)(f:Fn)(x y:gd):(store a (.func f x y) m).run P w=stored P w a (.func f x y) m:=run_store P w a _ m rfl
def wz(f:Func):Code:=match f.body with|some (.seq (.block _ (.loop b)) _)=>b|_=>.skip
def EQ(f:Func):Code:=match f.body with|some (.seq _ r)=>r|_=>.skip
def qo(A:Nat)(cs:cO)(g:aV):Prop:=∃y1 y2 y3 y4 y5 y6 y7 y8 y9 SX ZC SV SU SS SR SQ SP SO SN SM SL SK SJ SI SH SG SF SE SD SC SB SA Sz Sy:Value,
 g=G ((base 32).at ⟨#[.pointer (some ⟨A,0,none⟩),y1,y2,y3,y4,y5,y6,y7,y8,y9,SX,ZC,SV,SU,SS,SR,SQ,SP,SO,SN,SM,SL,SK,SJ,SI,SH,SG,SF,SE,SD,SC,SB,SA,Sz,Sy],[]⟩ [.code (wz f32),.inLoop (wz f32),.inBlock 0,.code (EQ f32)]) cs
def pJ(A:Nat)(cs:cO)(fr:aC):Prop:=∀Φ,CF prog true Φ->(∀g,qo A cs g->Φ g)->Φ (G (fr.finish (.tuple #[])) cs)
def Sd(cR:aC)(lT:cO)(fr:aC):Prop:=∀Φ,CF prog true Φ->Φ (G (cR.finish (.tuple #[])) lT)->Φ (G (fr.finish (.tuple #[])) (cR::lT))
variable{Q:gi}
def Pw(F:aB prog true (DX O) Q)(N A:Nat)(cs:cO)(t:Int)(f:FuncId)(fn:Func)(fst cp:gd)(es:jl)(en Z:ay)(g:aV)(z:aj)(KH:qo A cs g)(hf:prog.funcs[f]? =some fn)(X:(fn.name== "runtime.NumGoroutine")=false)(hb:fn.body.isNone=false)(H:fZ N z en ((t,.func (.func f) fst cp)::es))(lA:A<N)(hN:N<=z.heap.size)(i:z.cell? ⟨A,0,none⟩=some Z)(l:z.frozen? ⟨A,0,none⟩=false)(b:z.cell? ⟨A,1,none⟩=some en)(k:z.frozen? ⟨A,1,none⟩=false)(Z:O ⟨A,1,none⟩ false)(Z:O ⟨A,1,none⟩ true)(Z:O ⟨A,0,none⟩ true)(Mn:∀a:Addr,a.block∈cw en->O a false)(C:∀(a:Addr)(wr:Bool),z.heap.size<=a.block->O a wr)(hc:∀fr S Z,pJ A cs fr->Kp [] z S [⟨A,0,none⟩,⟨A,1,none⟩]->S.cell? ⟨A,0,none⟩=some (.int .i64 t)->S.frozen? ⟨A,0,none⟩=false->S.cell? ⟨A,1,none⟩=some Z->S.frozen? ⟨A,1,none⟩=false->fZ N S Z es->(∀g∈cw Z,g∈cw en)->Q (G (Frame.enter prog f (fst++cp) .normal) (fr::cs)) S):Q g z:=by
 obtain⟨G,G,G,G,G,G,G,G,G,G,G,G,G,G,G,G,G,G,G,G,G,G,G,G,G,G,G,G,G,G,G,G,G,G,rfl⟩:=KH;rcases H.2 with ⟨_,Nb⟩|⟨E,off,V,cur,T,hle,XQ,D,G,W⟩
 .cases Nb
 obtain⟨U,rfl⟩:∃c,V=c+1:=⟨V-1,χ⟩;have U0:=H.1;have CO:z.cell? ⟨E,off,none⟩=some (.int .i64 t):=by have:=W 0 _ φ;simp only[World.cell?,D];simp_all
 have hE1:z.cell? ⟨E,off+1,none⟩=some (.func (.func f) fst cp):=by have:=W 1 _ φ;simp only[World.cell?,D];simp_all
 obtain⟨q,hq⟩:∃q,q=es.length:=⟨_,rfl⟩;have c:((t,Value.func (.func f) fst cp)::es).length=q+1:=by simp[hq]
 rw[c]at T hle;replace hq:q<=es.length/\es.length<=q:=⟨pK hq,pK hq.symm⟩;have f:∀w,(Instr.sliceAt 115 (.slice (some ⟨E,off,none⟩) (q+1) (U+1)) (some (.int .i64 1)) none none).events prog w #[]=#[]:=λw=>(l6 w (L:=1) rfl ω hle).2;have XU:∀g,g∈cw en↔g=E:=λg=>by rw[bS,T];simp[Value.ownBlock];omega
 have B:∀a:Addr,a.block=E->O a false:=λa h=>Mn a ((XU _).2 h);rw[T]at b;have a:E<z.heap.size:=(cU.1 D).1;have a:E≠A:=ω
 have a:((0:Int)<(q:Int)+1):=ω
 have a:(1:Int)<=(q:Int)+1:=ω
 have a:q<=U:=ω
 clear c H T;have a:=xD;unfold wz;refine F.sq ?_;refine F.cF ?_;iterate 3 (refine F.aJ ?_)
 refine F.ow ?_;iterate 2 (refine F.aJ ?_)
 refine F.re ?_;refine F.ct rfl ?_;refine F.sk ?_;refine F.bl ?_;refine F.cF ?_;iterate 3 (refine F.aJ ?_)
 refine F.ow ?_;refine F.aJ ?_;refine F.ol rfl rfl rfl λd K I=>?_;go_simp;refine I _ (λe M=>?_) ?_
 .simp[go_sem, *]at M;rcases M with rfl|rfl<;>exact Rt (w:=z) (by assumption) (by first|assumption|exact B _ rfl|(apply C<;>dsimp only<;>omega))
 clear I K d;try walk_nrm
 clear CO hE1;refine F.GV ?_;generalize r:World.alloc z _=S;generalize L:(World.heap z).size=a;have a:=gH r L;replace l:=dP l i r;replace k:=dP k b r;replace i:=bN i r;replace b:=bN b r;have v:=aY (i:=0) r L rfl;have y:=cy r L 0;have s:=aY (i:=1) r L rfl;have x:=cy r L 1;try simp only[sS,sW,sV]at v s
 have J:Kp [] z z [⟨A,0,none⟩,⟨A,1,none⟩]:=Kp.refl _;replace J:=J.yT r;refine F.op rfl rfl δ (λd K I=>?_);go_simp;repeat rw[setCell_at']
 refine I _ _ ⟨DX.Ud _ (by(first|assumption|exact B _ rfl|(apply C<;>dsimp only<;>omega))) (by(first|assumption|exact B _ rfl|(apply C<;>dsimp only<;>omega))) (λe Y=>?_),?_⟩
 .have M:=mem_listed Y;simp[go_sem,storedEv,mu, *]at M;rcases M with rfl|rfl<;>exact .inl ⟨_,rfl,rfl,by(first|assumption|exact B _ rfl|(apply C<;>dsimp only<;>omega)),by simp only[iL,size_set];first|omega|exact au (by assumption)⟩
 clear I K d;try walk_nrm
 generalize p:World.setCell S _ _=w2;have a:=lu p;replace l:=eF l p;replace k:=eF k p;replace y:=eF y p;replace x:=eF x p;replace i:=dQ i p ψ;replace b:=dQ b p Θ;replace v:=kP v p;replace s:=dQ s p Θ;replace J:=J.EH p (by first|(left;simp;done)|(right;left;simp;done)|(right;right;dsimp only;omega));generalize o:World.setCell w2 _ _=w3;have a:=lu o;replace l:=eF l o;replace k:=eF k o;replace y:=eF y o;replace x:=eF x o;replace i:=dQ i o Θ;replace b:=dQ b o Θ;replace v:=dQ v o Θ;replace s:=kP s o;replace J:=J.EH o (by first|(left;simp;done)|(right;left;simp;done)|(right;right;dsimp only;omega));refine F.dA ?_;iterate 4 (refine F.aJ ?_)
 refine F.ow ?_;refine F.AZ rfl rfl δ (λ_=>(by simp[go_sem, *])) (λd K I=>?_);go_simp;refine I _ ?_;clear I K d;try walk_nrm
 iterate 2 (refine F.aJ ?_)
 refine F.op rfl rfl δ (λd K I=>?_);go_simp;rw[setCell_at'];refine I _ _ ⟨DX.set _ (by(first|assumption|exact B _ rfl|(apply C<;>dsimp only<;>omega))) (λe Y=>?_),?_⟩
 .have M:=mem_listed Y;simp[go_sem,storedEv,fD, *]at M;subst M;exact .inl ⟨_,rfl,rfl,by(first|assumption|exact B _ rfl|(apply C<;>dsimp only<;>omega)),by simp only[iL,size_set];first|omega|exact au (by assumption)⟩
 clear I K d;try walk_nrm
 generalize n:World.setCell w3 _ _=w4;have a:=lu n;replace l:=eF l n;replace k:=eF k n;replace y:=eF y n;replace x:=eF x n;replace i:=dQ i n ψ;replace b:=kP b n;replace v:=dQ v n Θ;replace s:=dQ s n Θ;replace J:=J.EH n (by first|(left;simp;done)|(right;left;simp;done)|(right;right;dsimp only;omega));refine F.dA ?_;iterate 2 (refine F.aJ ?_)
 refine F.ow ?_;iterate 2 (refine F.aJ ?_)
 refine F.op rfl rfl δ (λd K I=>?_);go_simp;rw[setCell_at'];refine I _ _ ⟨DX.set _ (by(first|assumption|exact B _ rfl|(apply C<;>dsimp only<;>omega))) (λe Y=>?_),?_⟩
 .have M:=mem_listed Y;simp[go_sem,storedEv, *]at M;subst M;exact .inl ⟨_,rfl,rfl,by(first|assumption|exact B _ rfl|(apply C<;>dsimp only<;>omega)),by simp only[iL,size_set];first|omega|exact au (by assumption)⟩
 clear I K d;try walk_nrm
 generalize m:World.setCell w4 _ _=w5;have a:=lu m;replace l:=eF l m;replace k:=eF k m;replace y:=eF y m;replace x:=eF x m;replace i:=kP i m;replace b:=dQ b m ψ;replace v:=dQ v m Θ;replace s:=dQ s m Θ;replace J:=J.EH m (by first|(left;simp;done)|(right;left;simp;done)|(right;right;dsimp only;omega));refine F.CZ ?_;refine F.aJ ?_;refine F.ow ?_;refine F.Cg rfl rfl δ rfl rfl hf X hb ?_;try walk_nrm
 simp only[Array.append_empty];have a:∀g,g∈cw (Value.slice (if U=0 then some ⟨E,off,none⟩else some ⟨E,off+2,none⟩) q U)->g=E:=λg c=>by by_cases P:U=0<;>simpa [cw,Value.ownBlock,P]using c
 refine hc _ w5 _ ?_ J i l b k ?_ (λg c=>(XU g).2 (a g c))
 .clear F;intro a F a;rw[bQ];try walk_nrm
  refine F.re ?_;refine F.ib ?_;refine F.ctl (λ_=>stepG_inLoop) ?_;exact a _ ⟨_,_,_,_,_,_,_,_,_,_,_,_,_,_,_,_,_,_,_,_,_,_,_,_,_,_,_,_,_,_,_,_,_,_,rfl⟩
 .have R:=J.blk E _ _ _ ψ χ D;refine⟨λe Y=>U0 e (aP _ Y),.inr ?_⟩;have a:q=es.length:=Nat.le_antisymm hq.1 hq.2;have Zg:∀(j:Nat)(u:ay),(flat es)[j]? =some u->cur[off+2+j]? =some u:=λj u hu=>by
   have:=W (j+2) u (by simpa [flat]using hu);grind
  by_cases P:U=0
  .subst P;have M9:q=0:=ω
   have Y7:es=[]:=WC ω;subst Y7;exact⟨E,off,0,cur,by simp[M9],ψ,XQ,R,ω,λj u hu=>by simp[flat]at hu⟩
  .exact⟨E,off+2,U,cur,χ,ω,XQ,R,ω,Zg⟩
def N4(F:aB prog true (DX O) Q)(A:Nat)(e:aC)(a:cO)(b:eP)(U:Nat)(g:aV)(c:aj)(d:qo A (e::a) g)(h:c.cell? ⟨A,1,none⟩=some (.slice b 0 U))(b:O ⟨A,1,none⟩ false)(f:∀b,Sd e a b->Q (G (Frame.enter prog 54 #[.pointer (some ⟨A,5,none⟩)] .normal) (b::e::a)) c):Q g c:=by
 obtain⟨a,a,a,a,a,a,a,a,a,a,a,a,a,a,a,a,a,a,a,a,a,a,a,a,a,a,a,a,a,a,a,a,a,a,rfl⟩:=d;unfold wz EQ;refine F.sq ?_;refine F.cF ?_;iterate 3 (refine F.aJ ?_)
 refine F.ow ?_;iterate 2 (refine F.aJ ?_)
 refine F.re ?_;refine F.cf rfl ?_;refine F.ctl (λ_=>stepG_exit rfl) ?_;refine F.zA ?_;iterate 3 (refine F.aJ ?_)
 refine F.uO func54 ?_;refine f _ ?_;clear F;intro a F a;rw[bQ];try walk_nrm
 refine F.Du func32 ?_;exact a
end
section
def BT(A bM bJ:Nat)(cs:cO)(g:aV):Prop:=∀J:Nat,J<2->∀Φ,CF prog true Φ->(∀g',qo A cs g'->Φ g')->Φ (Go.Conc.served g (commResult (jD bM bJ) .select J (.agg #[]) true))
def R6(A bM bJ:Nat)(cs:cO)(pl:oJ)(a:aV):Prop:=∀(K:cK)(Still:dm)(B:Nat)(w:aj),(∀w,K w->∀p∈pl,w.cell? p.1=some p.2)->(∀p∈pl,Still (.cell p.1)/\p.1.block<B)->
 ∃n,Goes prog true (RK K) (DS Still B) (λg _=>∃Rh,AtIn prog true K Still B (lC bM bJ (BT A bM bJ cs)) g Rh) n a w
def qd(A bM bJ:Nat):List (Addr×Value):=[(⟨A,3,none⟩,.chan (some bM)),(⟨A,4,none⟩,.chan (some bJ))]
def Ou(A bM bJ X bg bf:Nat)(cs:cO)(a:aV):Prop:=
 a.status=.running/\∃a',(∀w,stepG prog true a w=.spawn a' (born prog (call89 bg bf)) w #[])/\R6 A bM bJ cs ((⟨X,0,none⟩,.pointer (some ⟨A,0,none⟩))::qd A bM bJ) a'
def Sv(A:Nat)(cs:cO)(fr:aC)(yR:cO):Prop:=∀Φ,CF prog true Φ->(∀g,qo A cs g->Φ g)->Φ (G (fr.finish (.tuple #[])) yR)
def BU(A bM bJ aS:Nat)(z:Int)(cs:cO)(a:aV):Prop:=
 a.status=.running/\(∀w,stepG prog true a w=.comm a #[scase aS (.int .i64 z) (.tuple #[])] true .send w #[])/\R6 A bM bJ cs (qd A bM bJ) (Go.Conc.served a undef)
variable{Q:gi}
def HT(F:aB prog true (DX O) Q)(A T s t W D C:Nat){ff:FuncId}(fa:gd)(fr:aC)(cs:cO)(v:aj)(R:pJ A cs fr)(n:v.cell? ⟨W,0,none⟩=some (.pointer (some ⟨A,0,none⟩)))(f:v.cell? ⟨D,0,none⟩=some (.pointer (some ⟨T,0,none⟩)))(d:v.cell? ⟨C,0,none⟩=some (.func (.func ff) #[] fa))(V:O ⟨W,0,none⟩ false)(V:O ⟨D,0,none⟩ false)(V:O ⟨C,0,none⟩ false)(V:∀(a:Addr)(wr:Bool),v.heap.size<=a.block->O a wr)(hc:∀c V u X bt bw bg bf,(∀H,CF prog true H->(∀a,Ou A s t X bg bf cs a->H a)->H (G (c.finish (.tuple #[])) V))->Kp [] v u->(∀b∈[X,bt,bw,bg,bf],v.heap.size<=b/\b<u.heap.size)->
 u.cell? ⟨X,0,none⟩=some (.pointer (some ⟨A,0,none⟩))->u.cell? ⟨bt,0,none⟩=some (.pointer (some ⟨T,0,none⟩))->u.cell? ⟨bw,0,none⟩=some (.func (.func ff) #[] fa)->u.cell? ⟨bg,0,none⟩=some (.pointer (some ⟨A,5,none⟩))->
 u.cell? ⟨bf,0,none⟩=some (.func (.func 61) #[] #[.pointer (some ⟨bw,0,none⟩),.pointer (some ⟨bt,0,none⟩),.pointer (some ⟨X,0,none⟩)])->Q (G (Frame.enter prog 87 #[.pointer (some ⟨A,5,none⟩),.int .i64 1] .normal) (c::V)) u):
 Q (G (Frame.enter prog 48 (#[]++#[.pointer (some ⟨W,0,none⟩),.pointer (some ⟨D,0,none⟩),.pointer (some ⟨C,0,none⟩)]) .normal) (fr::cs)) v:=by
 have a:=xD;have a:(#[]:gd)++#[.pointer (some ⟨W,0,none⟩),.pointer (some ⟨D,0,none⟩),.pointer (some ⟨C,0,none⟩)]=#[.pointer (some ⟨W,0,none⟩),.pointer (some ⟨D,0,none⟩),.pointer (some ⟨C,0,none⟩)]:=rfl;rw[a];clear a;simp only[enter_at _ func48 rfl,ntmps48];walk_nrm;refine F.zA ?_;refine F.ow ?_;refine F.ow ?_;refine F.ow ?_;refine F.uO func49 ?_;simp only[enter_at _ func49 rfl,ntmps49];walk_nrm;refine F.cF ?_;refine F.GV ?_;generalize r:World.alloc v _=u;generalize P:(World.heap v).size=Y;have a:=gH r P;replace n:=bN n r;replace f:=bN f r;replace d:=bN d r;have j:=aY (i:=0) r P rfl;have p:=cy r P 0;try simp only[sS,sW]at j
 have x:Kp [] v v []:=Kp.refl _;replace x:=x.yT r;refine F.GV ?_;generalize o:World.alloc u _=w2;generalize N:(World.heap u).size=n2;have a:=gH o N;replace p:=dP p j o;replace n:=bN n o;replace f:=bN f o;replace d:=bN d o;replace j:=bN j o;have l:=aY (i:=0) o N rfl;have dh:=cy o N 0;try simp only[sS,sW]at l
 replace x:=x.yT o;refine F.GV ?_;generalize m:World.alloc w2 _=w3;generalize M:(World.heap w2).size=n3;have a:=gH m M;replace p:=dP p j m;replace dh:=dP dh l m;replace n:=bN n m;replace f:=bN f m;replace d:=bN d m;replace j:=bN j m;replace l:=bN l m;have q:=aY (i:=0) m M rfl;have E:=cy m M 0;try simp only[sS,sW]at q
 replace x:=x.yT m;refine F.dA ?_;refine F.ow ?_;iterate 3 (refine F.aJ ?_)
 refine F.uO func60 ?_;simp only[enter_at _ func60 rfl,ntmps60];walk_nrm;refine F.cF ?_;refine F.GV ?_;generalize k:World.alloc w3 _=w4;generalize L:(World.heap w3).size=n4;have a:=gH k L;replace p:=dP p j k;replace dh:=dP dh l k;replace E:=dP E q k;replace n:=bN n k;replace f:=bN f k;replace d:=bN d k;replace j:=bN j k;replace l:=bN l k;replace q:=bN q k;have y:=aY (i:=0) k L rfl;have S:=cy k L 0;try simp only[sS,sW]at y
 replace x:=x.yT k;refine F.GV ?_;generalize i:World.alloc w4 _=w5;generalize I:(World.heap w4).size=n5;have a:=gH i I;replace p:=dP p j i;replace dh:=dP dh l i;replace E:=dP E q i;replace S:=dP S y i;replace n:=bN n i;replace f:=bN f i;replace d:=bN d i;replace j:=bN j i;replace l:=bN l i;replace q:=bN q i;replace y:=bN y i;have U:=aY (i:=0) i I rfl;have a:=cy i I 0;try simp only[sS,sW]at U
 replace x:=x.yT i;refine F.dA ?_;refine F.ow ?_;refine F.uO func87 ?_;refine hc _ _ w5 Y n2 n3 n4 n5 ?_ x (by intro b hb;simp at hb;omega) j l q y U;clear F;intro H F ht;rw[bQ];try walk_nrm
 refine F.CZ ?_;refine F.oq rfl rfl rfl η (λw Z=>ζ) ?_;try walk_nrm
 refine ht _ ⟨rfl,?_⟩;apply Exists.intro;constructor
 .intro w;rw[stepG_spawn (d:=call89 n4 n5) (f:=.func 88) (c:=#[.pointer (some ⟨n4,0,none⟩),.pointer (some ⟨n5,0,none⟩)]) (w':=w) rfl rfl δ (by simp[execOp,call89,resolve,Deferred.ofValue,Act.eval]) rfl];rfl
 .intro K Still B w b a;clear F;have F:=qE (P:=prog) (K:=K) (Still:=Still) (B:=B) true (lC s t (BT A s t cs)) w;have fX:∀w,K w->w.cell? ⟨Y,0,none⟩=some (.pointer (some ⟨A,0,none⟩)):=λw h=>b w h (⟨Y,0,none⟩,_) ψ;have f3:∀w,K w->w.cell? ⟨A,3,none⟩=some (.chan (some s)):=λw h=>b w h (⟨A,3,none⟩,_) (by simp[qd]);have f4:∀w,K w->w.cell? ⟨A,4,none⟩=some (.chan (some t)):=λw h=>b w h (⟨A,4,none⟩,_) (by simp[qd]);have sX:=a (⟨Y,0,none⟩,.pointer (some ⟨A,0,none⟩)) ψ;have s3:=a (⟨A,3,none⟩,.chan (some s)) (by simp[qd]);have s4:=a (⟨A,4,none⟩,.chan (some t)) (by simp[qd]);try walk_nrm
  refine F.Du func60 ?_;rw[bQ];try walk_nrm
  refine F.CZ ?_;apply F.op rfl rfl δ
  .intro w Z e he;have z:=fX w Z;simp[go_sem,z]at he;subst he;exact⟨_,rfl,sX.1,sX.2⟩
  .intro w Z;have z:=fX w Z;go_simp;rfl
  try walk_nrm
  refine F.uO func62 ?_;refine J3 A s t f3 f4 s3.1 s4.1 s3.2 _ _ (λg b J a H F ht=>b J a H F ?_) _;rw[bQ];try walk_nrm
  refine F.Du func49 ?_;rw[bQ];try walk_nrm
  refine F.Du func48 ?_;exact R H F ht
def YZ(F:aB prog true (DX O) Q)(A T x s t u:Nat)(z:Int)(S:aC)(cs N:cO)(C:aj)(P:Sv A cs S N)(V:C.cell? ⟨x,0,none⟩=some (.pointer (some ⟨T,0,none⟩)))(V:C.cell? ⟨x,1,none⟩=some (.int .i64 z))(V:C.cell? ⟨T,3,none⟩=some (.chan (some u)))(V:O ⟨x,0,none⟩ false)(V:O ⟨x,1,none⟩ false)(V:O ⟨T,3,none⟩ false)(U:∀a,BU A s t u z cs a->Q a C):
 Q (G (Frame.enter prog 154 #[.pointer (some ⟨A,0,none⟩),.pointer (some ⟨x,0,none⟩)] .normal) (S::N)) C:=by
 simp only[enter_at _ func154 rfl,ntmps154];walk_nrm;refine F.sq ?_;refine F.yw (γ:=Unit) (n:=12) mixed [[],[0],[1],[2],[3],[4],[5],[],[7],[8],[9],[6,10]] rfl ρ (λb g=>[(4,dB (b 0) (.pointer (some ⟨x,0,none⟩)) (undef)),(5,dB (b 1) (.pointer (some ⟨x,0,none⟩)) (undef)),(6,dB (b 2) (.pointer (some ⟨x,0,none⟩)) (undef)),(7,dB (b 3) (.pointer (some ⟨T,0,none⟩)) (undef)),(8,dB (b 4) (.pointer (some ⟨T,0,none⟩)) (undef)),(9,dB (b 5) (.pointer (some ⟨T,3,none⟩)) (undef)),(10,dB (b 6) (.chan (some u)) (undef)),(11,dB (b 7) (.pointer (some ⟨x,0,none⟩)) (undef)),(12,dB (b 8) (.pointer (some ⟨x,0,none⟩)) (undef)),(13,dB (b 9) (.pointer (some ⟨x,1,none⟩)) (undef)),(14,dB (b 10) (.int .i64 z) (undef))]) (λb g w=>(b 11=false->w=C)/\(b 11=true->(False))) (()) (by simp only[pu,Nat.reduceAdd,Nat.reduceEqDiff,reduceIte]) (⟨λ_=>rfl,λh=>by cases h⟩) (all_cons ?_ (all_cons ?_ (all_cons ?_ (all_cons ?_ (all_cons ?_ (all_cons ?_ (all_cons ?_ (all_cons ?_ (all_cons ?_ (all_cons ?_ (all_cons ?_ (all_cons ?_ (all_nil))))))))))))) ?_
 .intro b g w q d c m rest p k;let⟨i,o⟩:=q;replace c:b 0=false:=c;have PJ:=dy (d 1 0 rfl) c;have xR:=dy (d 2 1 rfl) PJ;have Yl:=dy (d 3 2 rfl) xR;have gD:=dy (d 4 3 rfl) Yl;have tI:=dy (d 5 4 rfl) gD;have sH:=dy (d 6 5 rfl) tI;have e:=dy (d 11 6 rfl) sH;have l:=(i e).symm;subst l;simp only[PJ,xR,Yl,gD,tI,sH,c,pu];refine F.aJ ?_;have f:=k g _ ⟨λ_=>rfl,λh=>no e h⟩;simp only[PJ,xR,Yl,gD,tI,sH,c,pu,Nat.reduceEqDiff,reduceIte]at f;exact f
 .intro b g w q d c m rest p k;let⟨i,o⟩:=q;replace c:b 1=false:=c;have M:=m 0 rfl;have xR:=dy (d 2 1 rfl) c;have Yl:=dy (d 3 2 rfl) xR;have gD:=dy (d 4 3 rfl) Yl;have tI:=dy (d 5 4 rfl) gD;have sH:=dy (d 6 5 rfl) tI;have e:=dy (d 11 6 rfl) sH;have l:=(i e).symm;subst l;simp only[M,xR,Yl,gD,tI,sH,c,pu];refine F.aJ ?_;have f:=k g _ ⟨λ_=>rfl,λh=>no e h⟩;simp only[M,xR,Yl,gD,tI,sH,c,pu,Nat.reduceEqDiff,reduceIte]at f;exact f
 .intro b g w q d c m rest p k;let⟨i,o⟩:=q;replace c:b 2=false:=c;have d1:=m 1 rfl;have Yl:=dy (d 3 2 rfl) c;have gD:=dy (d 4 3 rfl) Yl;have tI:=dy (d 5 4 rfl) gD;have sH:=dy (d 6 5 rfl) tI;have e:=dy (d 11 6 rfl) sH;have l:=(i e).symm;subst l;simp only[d1,Yl,gD,tI,sH,c,pu,Nat.reduceAdd];refine F.aJ ?_;have f:=k g _ ⟨λ_=>rfl,λh=>no e h⟩;simp only[d1,Yl,gD,tI,sH,c,pu,Nat.reduceAdd,Nat.reduceEqDiff,reduceIte]at f;exact f
 .intro b g w q d c m rest p k;let⟨i,o⟩:=q;replace c:b 3=false:=c;have d2:=m 2 rfl;have gD:=dy (d 4 3 rfl) c;have tI:=dy (d 5 4 rfl) gD;have sH:=dy (d 6 5 rfl) tI;have e:=dy (d 11 6 rfl) sH;have l:=(i e).symm;subst l;simp only[d2,gD,tI,sH,c,pu,Nat.reduceAdd];refine F.ow ?_;have f:=k g _ ⟨λ_=>rfl,λh=>no e h⟩;simp only[d2,gD,tI,sH,c,pu,Nat.reduceAdd,Nat.reduceEqDiff,reduceIte]at f;exact f
 .intro b g w q d c m rest p k;let⟨i,o⟩:=q;replace c:b 4=false:=c;have d3:=m 3 rfl;have tI:=dy (d 5 4 rfl) c;have sH:=dy (d 6 5 rfl) tI;have e:=dy (d 11 6 rfl) sH;have l:=(i e).symm;subst l;simp only[d3,tI,sH,c,pu,Nat.reduceAdd];refine F.aJ ?_;have f:=k g _ ⟨λ_=>rfl,λh=>no e h⟩;simp only[d3,tI,sH,c,pu,Nat.reduceAdd,Nat.reduceEqDiff,reduceIte]at f;exact f
 .intro b g w q d c m rest p k;let⟨i,o⟩:=q;replace c:b 5=false:=c;have I:=m 4 rfl;have sH:=dy (d 6 5 rfl) c;have e:=dy (d 11 6 rfl) sH;have l:=(i e).symm;subst l;simp only[I,sH,c,pu,Nat.reduceAdd];refine F.aJ ?_;have f:=k g _ ⟨λ_=>rfl,λh=>no e h⟩;simp only[I,sH,c,pu,Nat.reduceAdd,Nat.reduceEqDiff,reduceIte]at f;exact f
 .intro b g w q d c m rest p k;let⟨i,o⟩:=q;replace c:b 6=false:=c;have H:=m 5 rfl;have e:=dy (d 11 6 rfl) c;have l:=(i e).symm;subst l;simp only[H,c,pu,Nat.reduceAdd];refine F.ow ?_;have f:=k g _ ⟨λ_=>rfl,λh=>no e h⟩;simp only[H,c,pu,Nat.reduceAdd,Nat.reduceEqDiff,reduceIte]at f;exact f
 .intro b g w q d c m rest p k;let⟨i,o⟩:=q;replace c:b 7=false:=c;have dG:=dy (d 8 7 rfl) c;have r:=dy (d 9 8 rfl) dG;have n:=dy (d 10 9 rfl) r;have e:=dy (d 11 10 rfl) n;have l:=(i e).symm;subst l;simp only[dG,r,n,c,pu,Nat.reduceAdd];refine F.aJ ?_;have f:=k g _ ⟨λ_=>rfl,λh=>no e h⟩;simp only[dG,r,n,c,pu,Nat.reduceAdd,Nat.reduceEqDiff,reduceIte]at f;exact f
 .intro b g w q d c m rest p k;let⟨i,o⟩:=q;replace c:b 8=false:=c;have L:=m 7 rfl;have r:=dy (d 9 8 rfl) c;have n:=dy (d 10 9 rfl) r;have e:=dy (d 11 10 rfl) n;have l:=(i e).symm;subst l;simp only[L,r,n,c,pu,Nat.reduceAdd];refine F.aJ ?_;have f:=k g _ ⟨λ_=>rfl,λh=>no e h⟩;simp only[L,r,n,c,pu,Nat.reduceAdd,Nat.reduceEqDiff,reduceIte]at f;exact f
 .intro b g w q d c m rest p k;let⟨i,o⟩:=q;replace c:b 9=false:=c;have E:=m 8 rfl;have n:=dy (d 10 9 rfl) c;have e:=dy (d 11 10 rfl) n;have l:=(i e).symm;subst l;simp only[E,n,c,pu,Nat.reduceAdd];refine F.aJ ?_;have f:=k g _ ⟨λ_=>rfl,λh=>no e h⟩;simp only[E,n,c,pu,Nat.reduceAdd,Nat.reduceEqDiff,reduceIte]at f;exact f
 .intro b g w q d c m rest p k;let⟨i,o⟩:=q;replace c:b 10=false:=c;have D:=m 9 rfl;have e:=dy (d 11 10 rfl) c;have l:=(i e).symm;subst l;simp only[D,c,pu,Nat.reduceAdd];refine F.ow ?_;have f:=k g _ ⟨λ_=>rfl,λh=>no e h⟩;simp only[D,c,pu,Nat.reduceAdd,Nat.reduceEqDiff,reduceIte]at f;exact f
 .intro b g w q d c m rest p k;let⟨i,o⟩:=q;replace c:b 11=false:=c;have R:=m 6 rfl;have y:=m 10 rfl;have D:=d 10 9 rfl y;have E:=d 9 8 rfl D;have L:=d 8 7 rfl E;have H:=d 6 5 rfl R;have I:=d 5 4 rfl H;have d3:=d 4 3 rfl I;have d2:=d 3 2 rfl d3;have d1:=d 2 1 rfl d2;have M:=d 1 0 rfl d1;have l:=(i c).symm;subst l;simp only[R,y,D,E,L,H,I,d3,d2,d1,M,pu,Nat.reduceAdd];have v:rest=[]:=p (by
   intro j d a;match j,d,a with
   |0,_,_=>exact M
   |1,_,_=>exact d1
   |2,_,_=>exact d2
   |3,_,_=>exact d3
   |4,_,_=>exact I
   |5,_,_=>exact H
   |6,_,_=>exact R
   |7,_,_=>exact L
   |8,_,_=>exact E
   |9,_,_=>exact D
   |10,_,_=>exact y
   |11,_,h=>omega
   |j+12,h,_=>omega)
  subst v;refine U _ ⟨rfl,λw=>?_,λK Still B w a d=>?_⟩
  .rfl
  .clear F;have F:=qE (P:=prog) (K:=K) (Still:=Still) (B:=B) true (lC s t (BT A s t cs)) w;have f3:∀w,K w->w.cell? ⟨A,3,none⟩=some (.chan (some s)):=λw h=>a w h (⟨A,3,none⟩,_) (by simp[qd]);have f4:∀w,K w->w.cell? ⟨A,4,none⟩=some (.chan (some t)):=λw h=>a w h (⟨A,4,none⟩,_) (by simp[qd]);have a:=d (⟨A,3,none⟩,.chan (some s)) (by simp[qd]);have e:=d (⟨A,4,none⟩,.chan (some t)) (by simp[qd]);rw[served_fr,bQ];try walk_nrm
   refine F.CZ ?_;apply F.AZ rfl rfl δ
   .intro w d;rfl
   .intro w d;go_simp;rfl
   try walk_nrm
   refine F.uO func62 ?_;refine J3 A s t f3 f4 a.1 e.1 a.2 _ _ (λg e J k a F d=>e J k a F ?_) _;rw[bQ];try walk_nrm
   refine F.Du func154 ?_;exact P a F d
 intro b g w q a;let⟨i,o⟩:=q;simp only[a 0 δ,a 1 δ,a 2 δ,a 3 δ,a 4 δ,a 5 δ,a 6 δ,a 7 δ,a 8 δ,a 9 δ,a 10 δ,pu];exact(o (a 11 δ)).elim
def LR(F:aB prog true (DX O) Q)(A T x n p j:Nat)(u:aC)(cs:cO)(c:aj)(k:pJ A cs u)(l:c.cell? ⟨x,0,none⟩=some (.pointer (some ⟨T,0,none⟩)))(f:c.cell? ⟨x,1,none⟩=some (.int .i64 0))(g:c.frozen? ⟨x,1,none⟩=false)(o:c.cell? ⟨T,0,none⟩=some (.pointer (some ⟨A,0,none⟩)))(m:c.cell? ⟨T,3,none⟩=some (.chan (some j)))(y:O ⟨x,0,none⟩ false)(w:O ⟨x,1,none⟩ false)(z:O ⟨x,1,none⟩ true)(z:O ⟨T,0,none⟩ false)(v:O ⟨T,3,none⟩ false)(z:x≠T)(C:∀a i,BU A n p j 1 cs a->Kp [] c i [⟨x,1,none⟩]->i.cell? ⟨x,1,none⟩=some (.int .i64 1)->i.frozen? ⟨x,1,none⟩=false->Q a i):
 Q (G (Frame.enter prog 143 (#[.pointer (some ⟨x,0,none⟩)]++#[]) .normal) (u::cs)) c:=by
 have u:((0:Int)==0)=true:=rfl;have u:x<c.heap.size:=au f;rw[Array.append_empty];simp only[enter_at _ func143 rfl,ntmps143];walk_nrm;refine F.cF ?_;iterate 3 (refine F.aJ ?_)
 refine F.ow ?_;refine F.aJ ?_;refine F.re ?_;refine F.ct rfl ?_;refine F.cF ?_;iterate 3 (refine F.aJ ?_)
 refine F.op rfl rfl δ (λd K t=>?_);go_simp;rw[setCell_at'];refine t _ _ ⟨DX.set _ (by(first|assumption|(apply r<;>dsimp only<;>omega))) (λe B=>?_),?_⟩
 .have s:=mem_listed B;simp[go_sem,storedEv, *]at s;subst s;exact .inl ⟨_,rfl,rfl,by(first|assumption|(apply r<;>dsimp only<;>omega)),by simp only[iL,size_set];first|omega|exact au (by assumption)⟩
 clear t K d;try walk_nrm
 generalize b:World.setCell c _ _=i;have d:=lu b;replace g:=eF g b;replace l:=dQ l b ψ;replace f:=kP f b;replace o:=dQ o b Θ;replace m:=dQ m b Θ;have q:Kp [] c c [⟨x,1,none⟩]:=Kp.refl _;replace q:=q.EH b (by first|(left;simp;done)|(right;left;simp;done)|(right;right;dsimp only;omega));refine F.CZ ?_;iterate 3 (refine F.aJ ?_)
 refine F.ow ?_;iterate 2 (refine F.aJ ?_)
 refine F.ow ?_;refine F.aJ ?_;refine F.uO func154 ?_;refine YZ F A T x n p j 1 _ cs _ i (λc F d=>?_) l f m y w v (λa h=>C a i h q f g);rw[bQ];try walk_nrm
 refine F.Du func143 ?_;exact k c F d
def LZ(F:aB prog true (DX O) Q)(A T x e f c k j:Nat)(z:Int)(l:aC)(cs:cO)(b:aj)(d:pJ A cs l)(g:b.cell? ⟨k,0,none⟩=some (.pointer (some ⟨A,0,none⟩)))(g:b.cell? ⟨j,0,none⟩=some (.pointer (some ⟨x,0,none⟩)))(h:b.cell? ⟨x,0,none⟩=some (.pointer (some ⟨T,0,none⟩)))(g:b.cell? ⟨x,1,none⟩=some (.int .i64 z))(i:b.cell? ⟨T,3,none⟩=some (.chan (some c)))(m:O ⟨k,0,none⟩ false)(m:O ⟨j,0,none⟩ false)(o:O ⟨x,0,none⟩ false)(n:O ⟨x,1,none⟩ false)(m:O ⟨T,3,none⟩ false)(p:∀a,BU A e f c z cs a->Q a b):
 Q (G (Frame.enter prog 182 (#[]++#[.pointer (some ⟨k,0,none⟩),.pointer (some ⟨j,0,none⟩)]) .normal) (l::cs)) b:=by
 rw[Array.empty_append];simp only[enter_at _ func182 rfl,ntmps182];walk_nrm;refine F.zA ?_;refine F.ow ?_;refine F.ow ?_;refine F.uO func154 ?_;refine YZ F A T x e f c z _ cs _ b (λa F b=>?_) h g i o n m p;rw[bQ];try walk_nrm
 refine F.Du func182 ?_;exact d a F b
def MS(F:aB prog true (DX O) Q)(A x:Nat)(z:Int)(c:aC)(cs:cO)(b:aj)(a:pJ A cs c)(d:z≠0)(d:b.cell? ⟨x,1,none⟩=some (.int .i64 z))(d:O ⟨x,1,none⟩ false)(d:∀g,qo A cs g->Q g b):
 Q (G (Frame.enter prog 143 (#[.pointer (some ⟨x,0,none⟩)]++#[]) .normal) (c::cs)) b:=by
 have c:(z==0)=false:=ξ
 rw[Array.append_empty];simp only[enter_at _ func143 rfl,ntmps143];walk_nrm;refine F.cF ?_;iterate 3 (refine F.aJ ?_)
 refine F.ow ?_;refine F.aJ ?_;refine F.re ?_;refine F.cf rfl ?_;refine F.sk ?_;refine F.ctl (λ_=>stepG_end) ?_;refine F.g9 rfl rfl func143 (resultsC_none φ _) ?_;exact a (λg=>Q g b) (pE F b) d
end
def Sl(c:aC)(cs:cO)(g:aV):Prop:=∀(z:Int) Φ,CF prog false Φ->Φ (G (c.finish (.int .i64 z)) cs)->Φ (Go.Conc.served g (.int .i64 z))
def lB(aS:Nat)(c:aC)(cs:cO):Seat:=Seat.one aS (.int .i64 0) false (Sl c cs)
def l7{a b:Nat}(h:(lB a c cs).has b):b=a:=Seat.one_has.1 h
def Wq(T aS x:Nat)(c:aC)(cs:cO)(a:aV):Prop:=∀(K:cK)(Still:dm)(B:Nat)(w:aj),(∀w,K w->w.cell? ⟨x,0,none⟩=some (.pointer (some ⟨T,0,none⟩))/\w.cell? ⟨T,3,none⟩=some (.chan (some aS)))->(Still (.cell ⟨x,0,none⟩)/\x<B)->(Still (.cell ⟨T,3,none⟩)/\T<B)->
 ∃n,Goes prog false (RK K) (DS Still B) (λg _=>∃Rh,AtIn prog false K Still B (lB aS c cs) g Rh) n a w
def Sn(bM T aS x:Nat)(c:aC)(cs:cO)(a:aV):Prop:=
 a.status=.running/\(∀w,stepG prog false a w=.comm a #[scase bM (.agg #[]) (.tuple #[])] true .send w #[])/\Wq T aS x c cs (Go.Conc.served a undef)
def Gx{Q:gi}(F:aB prog false (DX O) Q)(A T f i x:Nat)(c:aC)(cs:cO)(g:aj)(m:g.cell? ⟨x,0,none⟩=some (.pointer (some ⟨T,0,none⟩)))(m:g.cell? ⟨T,0,none⟩=some (.pointer (some ⟨A,0,none⟩)))(m:g.cell? ⟨A,3,none⟩=some (.chan (some f)))(m:O ⟨x,0,none⟩ false)(m:O ⟨T,0,none⟩ false)(m:O ⟨A,3,none⟩ false)(m:∀a,Sn f T i x c cs a->Q a g):Q (G (Frame.enter prog 152 #[.pointer (some ⟨x,0,none⟩)] .normal) (c::cs)) g:=by
 simp only[enter_at _ func152 rfl,ntmps152];walk_nrm;refine F.cF ?_;refine F.aJ ?_;refine F.dA ?_;iterate 3 (refine F.aJ ?_)
 refine F.ow ?_;iterate 2 (refine F.aJ ?_)
 refine F.ow ?_;iterate 2 (refine F.aJ ?_)
 refine F.ow ?_;refine F.aJ ?_;refine m _ ⟨rfl,λw=>?_,λK Still B w a k l=>?_⟩
 .rfl
 clear F;have F:=qE (P:=prog) (K:=K) (Still:=Still) (B:=B) false (lB i c cs) w;rw[served_fr,bQ];try walk_nrm
 have f0:=λw h=>(a w h).1;have f3:=λw h=>(a w h).2;refine F.dA ?_;iterate 3 (refine F.aJ ?_)
 apply F.op rfl rfl δ
 .intro w d e j;have b:=f0 w d;simp[go_sem,b]at j;subst j;exact⟨_,rfl,k.1,k.2⟩
 .intro w d;have b:=f0 w d;go_simp;rfl
 try walk_nrm
 iterate 2 (refine F.aJ ?_)
 apply F.op rfl rfl δ
 .intro w d e j;have b:=f3 w d;simp[go_sem,b]at j;subst j;exact⟨_,rfl,l.1,l.2⟩
 .intro w d;have b:=f3 w d;go_simp;rfl
 try walk_nrm
 refine⟨0,λa r=>⟨_,rfl,rfl,rfl,rfl,?_,#[],ψ,λw d=>?_⟩⟩
 .clear F;intro z a F a;rw[served_fr,bQ];try walk_nrm
  refine F.oq rfl rfl rfl η (λw d=>ζ) ?_;try walk_nrm
  refine F.tC func152 ?_;exact a
 rfl
def Kp.chan{c k y:Nat}{buf:gd}{j g:Bool}(i:w.heap[c]? =some (.chan 0 #[] false k k false)):Kp [] w (w.setChan c U buf j x y g):=by
 have d:∀(a:Addr)(v:ay),w.cell? a=some v->c≠a.block:=λa v h e=>by subst e;simp[World.cell?,i]at h
 exact⟨pK (by simp[World.setChan]),λa v _ _ h=>((iR (d a v h) ..).1).trans h,λa v _ _ h=>(iR (d a v h) ..).2,λb a t f _ _ h=>by
  by_cases e:c=b
  .simp_all
  .rw[heap_setChan_ne w _ _ _ _ _ _ e];exact h⟩
def EO{o:Obj}{k:Nat}:mB z v o=.chan U #[] false k k false↔o=.chan U #[] false k k false:=by
 cases o<;>simp[mB]
def oy{c k:Nat}:(w.setCell z v).heap[c]? =some (.chan U #[] false k k false)↔w.heap[c]? =some (.chan U #[] false k k false):=by
 rw[heap_set];split
 .cases w.heap[c]? with
  |none=>simp
  |some o=>simp[EO]
 rfl
def wy(b:z.spot=none):(∃u,(w.setCell z v).cell? z=some u)↔∃u,w.cell? z=some u:=by
 constructor
 .rintro ⟨u,a⟩;unfold World.cell? at a;rw[heap_set,sJ rfl]at a;unfold World.cell?;cases c:w.heap[z.block]? with
  |none=>simp_all
  |some o=>
   rw[c]at a;cases o<;>simp[mB,b]at a ⊢;grind
 .rintro ⟨u,a⟩;exact⟨v,D6 _ _ _ a⟩
def rX(g:∀p∈st,p.1≠z):KL st cc (w.setCell z v)↔KL st cc w:=by
 constructor
 .rintro ⟨f,e⟩;exact⟨λp a=>(qa _ _ _ _ (g p a).symm).symm.trans (f p a),λc d=>by let⟨k,b⟩:=e c d;exact⟨k,oy.1 b⟩⟩
 .rintro ⟨f,e⟩;exact⟨λp a=>(qa _ _ _ _ (g p a).symm).trans (f p a),λc d=>by let⟨k,b⟩:=e c d;exact⟨k,oy.2 b⟩⟩
theorem xP(a:wI.heap.size<=z.block):Old wI (w.setCell z v)↔Old wI w:=by
 constructor
 .rintro ⟨e,d,b,c,c⟩;refine⟨e,d,b,ξ,λk b=>?_⟩;have:=c k b;rw[heap_set,af ω]at this;exact this
 .exact A5 a
def oO{b o:Nat}(a:o≠5)(a:o≠6):¬jq l (.cell ⟨b,o,none⟩):=fun⟨A,_,z⟩=>ξ
def oN(w:aj)(c U:Nat)(buf:gd)(b:Bool)(x y:Nat)(a:Bool):(w.setChan c U buf b x y a).heap.size=w.heap.size:=by simp[World.setChan]
def KD(wI:aj)(A:Nat)(cc:aN)(st:oJ)(w:aj):Prop:=Old wI w/\KL st cc w/\(∃v,w.cell? ⟨A,5,none⟩=some v)/\w.frozen? ⟨A,5,none⟩=false/\∃v,w.cell? ⟨A,6,none⟩=some v
def QD(A:Nat)(w:aj):Prop:=w.cell? ⟨A,6,none⟩=some (.int .u32 0)/\w.frozen? ⟨A,6,none⟩=false
section
variable{A:Nat}
def Ko:∀w d,QD A w->QD A (w.at d):=λ_ _ h=>h
theorem P1(b:A∈l)(D:DX (cP wI.heap.size l st) w w' es)(h:KD wI A cc st w):KD wI A cc st w':=by
 have d:¬cP wI.heap.size l st ⟨A,5,none⟩ true:=λo=>o.1 ⟨A,b,.inl rfl⟩;have i:¬cP wI.heap.size l st ⟨A,6,none⟩ true:=λo=>o.1 ⟨A,b,.inr rfl⟩;let⟨l,k,⟨v,c⟩,j,g,b⟩:=h;let⟨f,e⟩:=D.cell _ d (au c);let⟨d,h⟩:=D.cell _ i (au b);exact⟨Za (λa o=>(o.2 rfl).1) _ _ _ D l,KA (λp a o=>(o.2 rfl).2 ⟨p,a,rfl⟩) _ _ _ D k,⟨v,f.trans c⟩,e.trans j,g,d.trans b⟩
theorem Kn(a:A∈l)(D:DX (cP wI.heap.size l st) w w' es)(h:QD A w):QD A w':=by
 have c:¬cP wI.heap.size l st ⟨A,6,none⟩ true:=λo=>o.1 ⟨A,a,.inr rfl⟩;let⟨b,a⟩:=D.cell _ c (au h.1);exact⟨b.trans h.1,a.trans h.2⟩
theorem mO(e:A∈l)(c:wI.heap.size<=A)(a:∀p∈st,p.1≠⟨A,5,none⟩):GK (KD wI A cc st) (jq l) (hU A):=by
 refine⟨λw d h=>h,λw v=>?_,λw h=>?_,⟨A,e,.inl rfl⟩⟩
 .show KD wI A cc st (w.setCell ⟨A,5,none⟩ v)↔_;unfold KD;rw[xP (z:=⟨A,5,none⟩) c,rX (z:=⟨A,5,none⟩) a,wy (z:=⟨A,5,none⟩) rfl,YB];rw[qa _ _ _ _ ψ]
 .refine⟨?_,h.2.2.1,h.2.2.2.1⟩;let⟨v,b⟩:=h.2.2.1;show ir w A;unfold World.cell? at b;unfold ir;grind
theorem Mc(d:A∈l):JW (DX (cP wI.heap.size l st)) ⟨A,5,none⟩:=λw w' es D e c b=>by
 rcases D.ev e c with ⟨a,g,_,f,_⟩|rfl
 .rw[g]at b;cases b;exact f.1 ⟨A,d,.inl rfl⟩
 .cases b
theorem aal(b:A∈l)(i:wI.heap.size<=A){a:Nat->Option Seat}{St:Nat->Loc->Prop}{L d dl:Nat}(c:d<=9999)(e:∀p∈st,p.1≠⟨A,5,none⟩)(f:∀g x,(a g).isSome->St g x->wD st x)(h:Nat):
 aB prog (h==0) (DX (cP wI.heap.size l st)) (fP prog Post (KD wI A cc st) (QD A) (jq l) St a (hU A) L d h n dl):=
 JJ (mO b i e) c Ko (λw w' es D=>⟨Gy (λd ⟨g,c,a⟩ o=>(o.2 rfl).2 (f g _ c a)) (λd wr z o=>o.1 z) (λw w' es D=>P1 b D) w w' es D,Kn b D⟩) DX.idle yE (Mc b)
theorem YK{c k:Nat}(m:wI.heap.size<=c)(i:c∈cc)(h:KD wI A cc st w):KD wI A cc st (w.setChan c 0 #[] false k k false):=by
 let⟨o,g,⟨v,f⟩,n,l,j⟩:=h;let⟨k,d⟩:=g.2 c i;have b:∀(a:Addr)(v:ay),w.cell? a=some v->c≠a.block:=λa v h e=>by subst e;simp[World.cell?,d]at h
 exact⟨Fh m o,IL (λy a=>b _ _ (g.1 y a)) i g,⟨v,((iR (b _ _ f) ..).1).trans f⟩,((iR (b _ _ f) ..).2).trans n,l,((iR (b _ _ j) ..).1).trans j⟩
def EU{C:List Addr}(h:QD A w)(k:Kp [] w w' C)(a:(⟨A,6,none⟩:Addr)∉C):QD A w':=⟨k.cellC _ _ ψ a h.1,(k.Q6 _ _ ψ a h.1).trans h.2⟩
end
section
variable{Q:gi}
def Ol(F:aB prog main (DX O) Q)(f:HB B O){a u:Nat}(b:Sat O w (bR u [ptr a]::bR a [v]::C))(c:B<=w.heap.size)(K:∀w',Sat O w' (bR a [ptr q]::C)->w.heap.size<=w'.heap.size->Q (G (cf.finish (.bool true)) cs) w'):
 Q (G (Frame.enter prog 94 #[.iface 184 (ptr q),.iface 186 (ptr a),.agg #[.pointer (some ⟨1,186,none⟩),ptr u,.int .u64 150],.iface 233 (.agg #[.pointer (some ⟨1,184,none⟩)])] .normal) (cf::cs)) w:=by
 refine cJ func94 b 62 λb b e b b d c h g=>aq (λM=>bR (e) [.pointer (some (Addr.mk 1 186 none)),ptr u,.int .u64 150]::(M)) 1 F f b c h 7 [] 1 [] [(6,ptr e),(0,.iface 184 (ptr q)),(1,.iface 186 (ptr a)),(3,.iface 233 (.agg #[.pointer (some (Addr.mk 1 184 none))]))] 7 1 [] λa a g a c c c=>bB (λM=>bR (e+1) [ptr q]::(bh 2 (0,0) (ptr q) (M))) 2 F f b d a g 22 [0,0,0,3,1,0,0,1,0,0,0,1,3,0,0,1] 7 [] 8 (.bool true) 29 3 [] λa c b b=>K a c.sat.tail.tail.tail ω
def Wl(F:aB prog main (DX O) Q)(g:HB B O){a:Nat}(b:Has C (oR 0 0 [.iface 233 (.agg #[.pointer (some ⟨1,136,none⟩)])] false))(f:Sat O w (bR a [v]::C))(c:B<=w.heap.size)(K:∀w',Sat O w' (bR a [ptr q]::C)->w.heap.size<=w'.heap.size->Q (G (cf.finish (.bool true)) cs) w'):
 Q (G (Frame.enter prog 64 #[.iface 184 (ptr q),.iface 186 (ptr a)] .normal) (cf::cs)) w:=by
 replace f:=f.get b.cons;refine cJ func64 f 42 λb b c b b e d i h=>aq (λM=>bR (c+1) [.pointer (some (Addr.mk 1 186 none)),ptr c,.int .u64 150]::(bR (c) [ptr a]::(M))) 2 F g b d i 73 [0,0,0,3,0,0,0,3,0,0,0,3,1,0,0,1,2,0,0,1,0,0,0,3] 1572181 [] [(40,.iface 233 (.agg #[.pointer (some (Addr.mk 1 184 none))])),(39,.agg #[.pointer (some (Addr.mk 1 186 none)),ptr c,.int .u64 150]),(38,.iface 186 (ptr a)),(37,.iface 184 (ptr q))] 73 16 [] λd d h d i i i=>ah F b d h 41 94 #[.iface 184 (ptr q),.iface 186 (ptr a),.agg #[.pointer (some (Addr.mk 1 186 none)),ptr c,.int .u64 150],.iface 233 (.agg #[.pointer (some (Addr.mk 1 184 none))])] λd d=>Ol (u:=c) (v:=v) F g (Sat.BC (A:=[bR c [ptr a]]) h.sat.tail) ω λa c a=>d _ _ _ c λa a d a c=>UF F g b e a d 2 [] 1 [] 4 (.bool true) 76 16 [] λa c b b=>K a c.sat ω
def Oj(F:aB prog main (DX O) Q)(e:HB B O){a:Nat}(b:Sat O w C)(c:B<=w.heap.size)(K:∀w',Sat O w' C->w.heap.size<=w'.heap.size->Q (G (cf.finish (.bool false)) cs) w'):
 Q (G (Frame.enter prog 64 #[.nilIface,.iface 186 (ptr a)] .normal) (cf::cs)) w:=by
 refine cJ func64 b 42 λa a a a b c a f d=>UF F e b c a f 15 [] 7 [] 4 (.bool false) 15 3 [] λa c b b=>K a c.sat ω
end
def Iu(e:iN):∀u∈qg e,u.oneCell'=true:=by intro u a;simp[qg]at a;rcases a with rfl|rfl|rfl<;>rfl
section
variable{Q:gi}
def BJ(F:aB prog main (DX O) Q)(o:HB B O){Z:aC}(c:Z.kind=.normal)(R:Z.fn=53){cf:aC}{cs:cO}{C:aW}(hC:Has C (oR 0 0 [.iface 233 (.agg #[.pointer (some ⟨1,136,none⟩)])] false)){d:Nat}(f:Nat->iN):
 ∀(ch:List iN)(n:Nat)(e v:ay)(k:eP)(U:Nat)(vs:eX),(∀j,j<ch.length->ch.getD j ⟨0,0,0⟩=f (n+j))->n+ch.length<1000000->Yu C e ch->∀T w X,T.defers=[]->B<=X->w.heap.size=X->
   St O X 29 [(4,ptr d),(3,.slice k n U),(0,e)] (bR d [v]::vR k 3 (λj=>qg (f j)) n U 40::sR k 3 vs n U::C) 0 T w->Vc O k n U->
   (∀r b g w',Sat O w' (vR r 3 (λj=>qg (f j)) (n+ch.length) b 40::sR r 3 g (n+ch.length) b::C)->Vc O r (n+ch.length) b->w.heap.size<=w'.heap.size->Q (G (cf.finish (.slice r (n+ch.length:Nat) b)) cs) w')->
   Q (G (Z.at T (pc prog 53 15 [] [])) (cf::cs)) w
 |[],n,e,v,k,U,vs,hf,hl,he,T,w,X,H,hle,P9,S0,hv,K=>by
  have he':e=.nilIface:=he;subst he';refine Rb F o c H S0 5 [] 1 [] [(6,.iface 186 (ptr d)),(5,.nilIface),(4,ptr d),(3,.slice k n U)] 20 1 [] λa1 w1 W E zS Dx o9=>ah F c E W 7 64 #[.nilIface,.iface 186 (ptr d)] λyS m=>Oj F o W.sat ω λw2 J yP=>m _ _ _ J λa2 B2 S2 D tM=>UF F o c R D S2 8 [] 5 [] 2 (.slice k n U) 29 2 [] λw3 S3 YF yO=>K k U vs w3 S3.sat.tail hv ω
 |x::ch,n,e,v,k,U,vs,hf,hl,he,T,w,X,H,hle,P9,S0,hv,K=>by
  obtain⟨q,S,rfl,h1,J⟩:=he;have r:=J;simp only[gB]at hl K;refine Rb F o c H S0 5 [] 1 [] [(6,.iface 186 (ptr d)),(5,.iface 184 (ptr q)),(4,ptr d),(3,.slice k n U)] 20 1 [] λa1 w1 W E zS Dx o9=>ah F c E W 7 64 #[.iface 184 (ptr q),.iface 186 (ptr d)] λyS m=>Wl F o hC.cons.cons W.sat ω λw2 r yP=>m _ _ _ (r.get h1.cons.cons.cons) λa2 B2 S2 D tM=>aq (λM=>bR (B2) [i6 x.k,i6 x.l,i6 x.n]::(M)) 1 F o c D S2 6 [1,0,0,1,0,0,0,1,1,0,0,1,0,0,1,1,1,0,0,1,0,0,2,1] 7 [15] [(22,.slice (some ⟨B2,0,none⟩) 1 1),(8,.slice k n U),(4,ptr d)] 27 3 [15] λk w3 S3 P YF yO k=>apS F (λa wr z=>o a wr ω) c 8 22 23 33 40 3 24 3 4 0 ρ ρ ρ δ rfl rfl rfl rfl δ rfl hv (λ_ _=>rfl) rfl (Iu x) (az _) (by simp only[maxLen];omega) ω S3 λg' b a g a4 Y A KU N=>?_;have k:=A.size;have Tz:x=f n:=by have:=hf 0 ψ;simpa using this
  have VM:Sat O Y (bR B2 (qg x)::oR q 0 [i6 x.k,i6 x.l,i6 x.n,S] false::bR d [ptr q]::vR (some ⟨g',0,none⟩) 3 (λj=>qg (f j)) (n+1) b 40::sR (some ⟨g',0,none⟩) 3 g (n+1) b::C):=A.sat.re 3 rfl rfl (λj=>qg (f j)) λj hj i _=>by
   show(qg (f j)).getD i undef=(a j).getD i undef;have a:j<n+1:=hj;by_cases e:j=n
   .subst e;rw[A.new,<-Tz]
   .rw[A.old j ω]
  have S4:St O Y.heap.size 29 _ _ 0 a4 Y:=⟨KU,VM,rfl⟩;generalize hB4:Y.heap.size=B4 at*;rw[show jB (pc prog 53 27 (Bo 3) [15])=pc prog 53 28 [true] [15] by kernel_rfl];have hee:S=.nilIface\/∃I,S=.iface 184 (ptr I):=by
   cases ch with
   |nil=>exact .inl J
   |cons y ch=>let⟨I,_,h,_⟩:=J;exact .inr ⟨I,h⟩
  have t:∀s p,s.defers=[]->p.heap.size=B4->St O B4 29 [(4,ptr d),(3,.slice (some ⟨g',0,none⟩) (n+1) b),(0,S)] (bR d [ptr q]::vR (some ⟨g',0,none⟩) 3 (λj=>qg (f j)) (n+1) b 40::sR (some ⟨g',0,none⟩) 3 g (n+1) b::C) 0 s p->Q (G (Z.at s (pc prog 53 15 [] [])) (cf::cs)) p:=λs p l u V=>by
   refine BJ F o c R hC f ch (n+1) S (ptr q) _ b g (λj hj=>?_) ω J s p B4 l ω u V A.vc λg a f h h6 L i=>?_
   .have:=hf (j+1) θ;rw[show n+1+j=n+(j+1) by omega,<-this];simp
   .have e:n+1+ch.length=n+(ch.length+1):=ω
    rw[e]at h6 L;rw[e];exact K g a f h h6 L ω
  rcases hee with rfl|⟨I,rfl⟩
  .refine Rb F o c N S4 11 [2,0,0,1,1,0,3,1] 1 [] [(0,.nilIface),(3,.slice (some ⟨g',0,none⟩) (n+1) b),(4,ptr d)] 39 3 [15] λs p V l u e f=>?_;rw[show pc prog 53 39 (Bo 3) [15]=pc prog 53 15 [] [] by kernel_rfl];have a:=V.dB [(4,ptr d),(3,.slice (some ⟨g',0,none⟩) (n+1) b),(0,.nilIface)] ρ;exact t s p (l.trans P) ω ⟨a.env,a.sat.tail.tail,a.sz⟩
  .refine Rb F o c N S4 11 [2,0,0,1,1,0,3,1] 1 [] [(0,.iface 184 (ptr I)),(3,.slice (some ⟨g',0,none⟩) (n+1) b),(4,ptr d)] 39 3 [15] λs p V l u e f=>?_;rw[show pc prog 53 39 (Bo 3) [15]=pc prog 53 15 [] [] by kernel_rfl];have a:=V.dB [(4,ptr d),(3,.slice (some ⟨g',0,none⟩) (n+1) b),(0,.iface 184 (ptr I))] ρ;exact t s p (l.trans P) ω ⟨a.env,a.sat.tail.tail,a.sz⟩
def L7(F:aB prog main (DX O) Q)(p:HB B O)(t:Has C (oR 0 0 [.iface 233 (.agg #[.pointer (some ⟨1,136,none⟩)])] false)){ch:List iN}(m:ch.length<1000000){e:ay}(k:Yu C e ch)(i:ch≠[])(l:Sat O w C)(m:B<=w.heap.size)(K:∀c b d w',Sat O w' (vR c 3 (λj=>qg (ch.getD j ⟨0,0,0⟩)) ch.length b 40::sR c 3 d ch.length b::C)->Vc O c ch.length b->w.heap.size<=w'.heap.size->Q (G (cf.finish (.slice c ch.length b)) cs) w'):
 Q (G (Frame.enter prog 53 #[e] .normal) (cf::cs)) w:=by
 obtain⟨q,rfl⟩:∃q,e=.iface 184 (ptr q):=by
  cases g:ch with
  |nil=>exact absurd g i
  |cons y ch=>rw[g]at k;let⟨q,_,h,_⟩:=k;exact⟨q,h⟩
 refine cJ func53 l 29 λe e o e e m i n l=>aq (λM=>bR (o) [.pointer none]::(M)) 1 F p e i n 15 [] 1 [] [(4,ptr o),(3,.slice none 0 0),(0,.iface 184 (ptr q))] 15 1 [] λu i q l n n n=>?_;have n:Sat O i (bR o [.pointer none]::vR none 3 (λj=>qg (ch.getD j ⟨0,0,0⟩)) 0 0 40::sR none 3 (λ_=>[]) 0 0::C):=((Sat.qj (Sat.qj q.sat (r:=sR none 3 (λ_=>[]) 0 0) rfl rfl) (r:=vR none 3 (λj=>qg (ch.getD j ⟨0,0,0⟩)) 0 0 40) rfl rfl).perm (eY (l₁:=[_,_])));have s:0+ch.length=ch.length:=bK _;refine BJ F p e m t (λj=>ch.getD j ⟨0,0,0⟩) ch 0 _ (.pointer none) none 0 (λ_=>[]) (λj _=>by rw[bK]) ω k u i i.heap.size l ω rfl ⟨q.env,n,rfl⟩ ⟨.inl ⟨rfl,rfl,rfl⟩,az _,gl _,λa h=>by cases h⟩ λc b d a r f e=>?_;rw[s]at r f;rw[s];exact K c b d a r f ω
end
def Bz{γ:Type}{E:TE γ}{J:PK}{Lf:LS->Prop}{t:Nat}(W:jF E J Lf t)(b:rB E J t):∀n j,j+n=J.V.nl->dV E J Lf t j
 |0,j,h=>by have e:j=J.V.nl:=h;rw[e];exact Oi W
 |n+1,j,h=>by
  have a:=Bz W b n (j+1) ω;rcases W.V.kd j ω with z|z|z|z|z|z
  .exact Ij W ω z a
  .exact Je W ω z a
  .exact Wn W ω z a
  .exact RZ W ω z a
  .exact Mm W ω z a
  .exact Ll W b ω z
def Bs{b:Bk}(h:Fin V Lf m (some (t,j,some b)) L):G5 b/\qm V t L:=by
 cases m with
 |zero=>exact h.elim
 |succ m=>exact⟨(h.2.2.2.1 b rfl).1,h.1⟩
def R5(W:jF E J Lf t)(FC:rB E J t){k:Nat}(ZR:k<=J.V.nl){p:γ}{s:PS}{R:aW}(C:Cn E J t p s w R)(hf:Fin J.V Lf m (some (t,k,none)) s.l)(Ts:m<=E.pS p)(K:∀P o I w' X a b,P<m->P<=E.pS o->Cn E J t o I w' (X++R)->Fin J.V Lf P (some (t,k,some b)) I.l->WA X a b->E.Ψ o (G (c.finish a) cs) w'):
 E.Ψ p (G (Frame.enter prog 50 #[Dv J k,ptr E.T] .normal) (c::cs)) w:=by
 have F:=W.f p;have D:=W.hB p;have a:=C.bd;have hS:=C.sat;have IH:=Bz W FC (J.V.nl-k) k ω;let⟨ty,a,IZ⟩:=xT J k;rw[a];unfold dV at IH;generalize iq J.V k=gf at*;refine cJ func50 hS 15 λbb a n hn j V a S0 w=>aq (λM=>bR (n) [i6 0,.nilIface,.nilIface]::(M)) 1 F D j a S0 7 [] 1 [] [(5,.func (Fn.func 63) #[] #[ptr n]),(4,ptr n),(0,.iface ty (ptr (J.lb k))),(1,ptr E.T)] 7 1 [] λa a S1 a w w w=>Wc F hn a 63 [ptr n] ρ ρ ρ S1 λa w a=>aq (λM=>M) 1 F D j a w 5 [] 1 [] [(8,ptr E.T),(7,.iface ty (ptr (J.lb k))),(4,ptr n)] 13 1 [] λa w3 S3 a w w w=>GM F j a 9 gf #[ptr (J.lb k),ptr E.T] (by rcases IZ with ⟨rfl,rfl⟩|⟨rfl,rfl⟩|⟨rfl,rfl⟩|⟨rfl,rfl⟩|⟨rfl,rfl⟩|⟨rfl,rfl⟩|⟨rfl,rfl⟩<;>kernel_rfl) ρ δ S3 λcf U=>?_;have C3:Cn E J t p s w3 ([bR n [i6 0,.nilIface,.nilIface]]++R):=⟨S3.sat.perm (gY (A:=pM s)),C.pv,C.qi,C.fl.cons rfl,C.eH.cons,ω,C.cp,C.ln,C.ti⟩;refine IH m p s w3 _ cf (c::cs) C3 hf Ts λP o I w' X r b Q S a H m k _=>?_;let⟨Hj,k⟩:=Bs H;have k:=a.bd;replace F:=W.f o;replace D:=W.hB o;have hM:=a.sat.perm (gM (A:=pM I));have v:∀k,Sat (E.Ok o) k (pM I++(E.me J t::((X++R)++E.P o I)))->w'.heap.size<=k.heap.size->Cn E J t o I k (X++R):=λk p k=>⟨p,a.pv,a.qi,a.fl.OC,C.eH.app X,ω,a.cp,a.ln,a.ti⟩
 rcases m with ⟨hb,rfl⟩|⟨hb,e,rfl,he⟩|⟨hb,rfl⟩
 .refine U.ret _ _ _ _ _ hM λa5 B5 S5 B Y5=>aq (λM=>bh 0 (0,0) (i6 b.n) (M)) 0 F D j B S5 13 [0,0,0,2,0,0,0,3,0,0,0,3] 1 [] [(4,ptr n)] 27 1 [] λa6 w6 Y T YG Hf fr6=>Mj F ρ T Hr f63 func63 _ rfl ρ 3 ρ Y λa7 S7 A=>ZH F D A S7 1 [] 1 [] [(0,ptr n)] 1 1 [] [] [] [] [] λa8 w8 S8 x Z IV Z7=>Td F 1 ρ ρ δ rfl S8 λa9 S9 g=>?_;rw[x]at g;refine ZH F D g S9 3 [0,0,2,1] 1 [] [] 5 1 [] [] [] [] [] λDq f l i L N O=>NW F ρ i f63 func63 ρ ?_;refine G6 F (a:=⟨a6.tmps,[]⟩) (N:=15) (E:=[(4,ptr n)]) ⟨Y.env.sz,Y.env.val⟩ l.sat j V rfl [(0,(0,0),true),(0,(0,1),true),(0,(0,2),true)] (.agg #[i6 b.n,.nilIface,.nilIface]) ρ ρ ?_;exact K P o I f X _ b Q S (v f l.sat.tail ω) H (.inl ⟨hb,rfl⟩)
 .have a:b.ch≠[]:=by
   rcases Hj.2.2 with ⟨z,_⟩|⟨_,_,z⟩|⟨z,_⟩
   .omega
   .exact z
   .omega
  obtain⟨q,rfl⟩:∃q,e=.iface 184 (ptr q):=by
   cases mQ:b.ch with
   |nil=>simp_all
   |cons y ch=>rw[mQ]at he;let⟨q,_,h,_⟩:=he;simp_all
  refine U.ret _ _ _ _ _ hM λa5 B5 S5 B Y5=>aq (λM=>bh 0 (0,1) (.iface 184 (ptr q)) (M)) 0 F D j B S5 13 [0,0,0,2,0,0,0,3,0,0,0,3] 1 [] [(4,ptr n)] 27 1 [] λa6 w6 Y T YG Hf fr6=>Mj F ρ T Hr f63 func63 _ rfl ρ 3 ρ Y λa7 S7 A=>ZH F D A S7 1 [] 1 [] [(0,ptr n)] 1 1 [] [] [] [] [] λa8 w8 S8 x Z IV Z7=>Td F 1 ρ ρ δ rfl S8 λa9 S9 g=>?_;rw[x]at g;refine ZH F D g S9 3 [0,0,2,1] 1 [] [] 5 1 [] [] [] [] [] λDq f l i L N O=>NW F ρ i f63 func63 ρ ?_;refine G6 F (a:=⟨a6.tmps,[]⟩) (N:=15) (E:=[(4,ptr n)]) ⟨Y.env.sz,Y.env.val⟩ l.sat j V rfl [(0,(0,0),true),(0,(0,1),true),(0,(0,2),true)] (.agg #[i6 0,.iface 184 (ptr q),.nilIface]) ρ ρ ?_;exact K P o I f X _ b Q S (v f l.sat.tail ω) H (.inr (.inl ⟨hb,q,rfl,he⟩))
 .obtain⟨a5,t5,rfl,B,Rc⟩:=U.NO;show E.Ψ o (G ((bb.at a5 t5).raise (je (.iface 182 (i6 b.n)))) (c::cs)) w';rw[raise_at hn.m];refine Tc F B Hr f63 func63 _ rfl ρ 3 ρ hM λa7 a S7 A a=>ZH F D A S7 1 [] 1 [] [(0,ptr n)] 1 1 [] [] [] [] [] λa8 w8 S8 x Z IV Z7=>rcp F (v:=.iface 182 (i6 b.n)) 1 ρ ρ δ rfl S8 λa9 S9 g=>?_;rw[x]at g;refine qk (λM=>bh 0 (0,2) (.iface 182 (i6 b.n)) (M)) 0 F D g S9 3 [0,0,2,1] 1 [] [] 5 1 [] [] [] [] [] λDq f l i L N O=>BC F (b:=bb) (a':=⟨a5.tmps,[]⟩) (todo':=t5) (v:=.iface 182 (i6 b.n)) ρ i f63 func63 ρ ?_;have c:aR [(4,ptr n)] 15 (⟨a5.tmps,[]⟩:Act):=⟨Rc.sz,λd u a=>Rc.val d u (ez [(4,ptr n)] _ ρ d u a)⟩;refine G6 F c l.sat j V rfl [(0,(0,0),true),(0,(0,1),true),(0,(0,2),true)] (.agg #[i6 0,.nilIface,.iface 182 (i6 b.n)]) ρ ρ ?_;exact K P o I f X _ b Q S (v f l.sat.tail ω) H (.inr (.inr ⟨hb,rfl⟩))
def Sat.chain{b:eP}{ch:List iN}(h:Sat O w (vR b 3 (λj=>qg (ch.getD j ⟨0,0,0⟩)) ch.length U 40::M)){a:Addr}(c:b=some a):Sat O w (gQ a ch::M):=by
 subst c;exact h.G7 0 rfl (gQ a ch) (λj a=>⟨a,rfl,rfl⟩) (λz=>by cases z) rfl
def PS.P2{s:PS}{k:PK}(h:s.k=k):∃a:PS,s={a with k:=k}:=⟨s,by cases s;simp_all⟩
def Ob(W:jF E J Lf t)(U:rB E J t){p:γ}{s:PS}{R:aW}(C:Cn E J t p s w R)(Q:Fin J.V Lf m (some (t,0,none)) s.l)(D:m<=E.pS p)(K:∀u e I w' X b j L N,u<m->u<=E.pS e->Cn E J t e I w' (X++R)->Fin J.V Lf u (some (t,0,some b)) I.l->fu X (.slice j L N) b.ch->E.Ψ e (G (c.finish (.agg #[i6 I.l.now,i6 b.k,i6 b.n,.slice j L N])) cs) w'):
 E.Ψ p (G (Frame.enter prog 31 #[Dv J 0,ptr E.T] .normal) (c::cs)) w:=by
 have F:=W.f p;have A:=W.hB p;have c:=C.bd;have w:=C.sat;let⟨j,c,m⟩:=xT J 0;rw[c];refine cJ func31 w 34 λm m B m d y m G w=>aq (λM=>bR (B) [i6 0,i6 0,i6 0,.slice none 0 0]::(M)) 1 F A d m G 8 [] 1 [] [(7,ptr E.T),(6,.iface j (ptr (J.lb 0))),(4,ptr B),(1,ptr E.T)] 8 1 [] λm G w m L L L=>GM F d m 8 50 #[.iface j (ptr (J.lb 0)),ptr E.T] ρ ρ δ w λm k=>?_;rw[show(.iface j (ptr (J.lb 0)):ay)=Dv J 0 from c.symm];have c:Cn E J t p s G ([bR B [i6 0,i6 0,i6 0,.slice none 0 0]]++R):=⟨w.sat.perm (gY (A:=pM s)),C.pv,C.qi,C.fl.cons rfl,C.eH.cons,ω,C.cp,C.ln,C.ti⟩;refine R5 W U (gl _) c Q D λu e I w' X a b v x i n S=>?_;obtain⟨I,rfl⟩:=PS.P2 i.hk;let⟨l,a⟩:=Bs n;have a:=i.bd;replace F:=W.f e;replace A:=W.hB e;have P:=(i.sat.perm (gM (A:=pM {I with k:=J}))).get ((kT.app (pM {I with k:=J})).cons);have f:∀o,Sat (E.Ok e) o (pM {I with k:=J}++(E.me J t::((X++R)++E.P e {I with k:=J})))->w'.heap.size<=o.heap.size->Cn E J t e {I with k:=J} o (X++R):=λo a O=>⟨a,i.pv,i.qi,i.fl.OC,C.eH.app X,ω,i.cp,i.ln,i.ti⟩
 have H:b.k≠2->b.ch=[]:=λa=>by
  rcases l.2.2 with ⟨_,z⟩|⟨z,_⟩|⟨_,z⟩
  .exact z
  .omega
  .exact z
 rcases S with ⟨a,rfl⟩|⟨a,q,rfl,T⟩|⟨a,rfl⟩
 .refine k.ret _ _ _ _ _ P λS N L j w=>aq (λM=>bR (N) [i6 b.n,.nilIface,.nilIface]::(bh 1 (0,2) (i6 b.n) (bh 1 (0,1) (i6 1) (bh 1 (0,0) (i6 I.l.now) (M))))) 1 F A d j L 28 [0,0,0,3,0,0,2,1,0,0,1,1,1,0,0,1,3,0,0,1,0,0,0,1,2,0,0,4] 21 [4] [(4,ptr B)] 37 4 [4] λQ p m i s D G=>cC F m d y i [2,0,0,4] (.agg #[i6 I.l.now,i6 1,i6 b.n,.slice none 0 0]) ?_;have h:=K u e _ p X b none 0 0 v x (f p m.sat.tail.tail.tail ω) n (.inl ⟨rfl,H ω⟩);simp_all
 .refine k.ret _ _ _ _ _ P λS N L j w=>aq (λM=>bR (N) [i6 0,.iface 184 (ptr q),.nilIface]::(M)) 1 F A d j L 23 [0,0,0,3,0,0,2,1,0,0,1,1,1,0,0,1,3,0,0,1,0,0,1,1] 29 [4] [(26,.iface 184 (ptr q)),(24,i6 I.l.now),(4,ptr B)] 32 6 [4] λQ p m i s D G=>ah F d i m 27 53 #[.iface 184 (ptr q)] λa a=>?_;have c:b.ch≠[]:=by
   rcases l.2.2 with ⟨z,_⟩|⟨_,_,z⟩|⟨z,_⟩
   .omega
   .exact z
   .omega
  have q:b.n=0:=by
   rcases l.2.2 with ⟨z,_⟩|⟨_,z,_⟩|⟨z,_⟩
   .omega
   .exact z
   .omega
  refine L7 F A ((((((C.eH.err.app X).pre _).cons).app (pM {I with k:=J})).cons).cons.cons) l.1 (T.up λr l=>(((((l.pre R).pre _).cons).app (pM {I with k:=J})).cons).cons.cons) c m.sat ω λl c q q r C q=>a _ _ _ r λa a r a q=>aq (λM=>bh 4 (0,3) (.slice l (List.length b.ch) c) (bh 4 (0,1) (i6 2) (bh 4 (0,0) (i6 I.l.now) (M)))) 0 F A d a r 3 [4,0,0,4] 1 [] [(4,ptr B)] 36 6 [4] λa o T a q O q=>cC F T d y a [4,0,0,4] (.agg #[i6 I.l.now,i6 2,i6 0,.slice l (List.length b.ch) c]) ?_;obtain⟨r,q⟩:∃r,l=some r:=by
   rcases C.row with ⟨_,z,_⟩|⟨g,z,_⟩
   .simp_all
   simp_all
  have g:Sat (E.Ok e) o (gQ r b.ch::(pM {I with k:=J}++(E.me J t::((X++R)++E.P e {I with k:=J})))):=(T.sat.chain q).sub (.cons_cons _ (.cons _ (.cons _ (.cons _ (.cons _ (List.Sublist.refl _))))));have a:=f o g.tail ω;have h:=K u e _ o (gQ r b.ch::X) b l b.ch.length c v x ⟨g.perm (gY (A:=pM {I with k:=J})),a.pv,a.qi,a.fl.cons rfl,a.eH.cons,a.bd,a.cp,a.ln,a.ti⟩ n (.inr ⟨r,c,0,by rw[q],rfl⟩);simp_all
 .refine k.ret _ _ _ _ _ P λS N L j w=>aq (λM=>bR (N) [i6 0,.nilIface,.iface 182 (i6 b.n)]::(bh 1 (0,2) (i6 b.n) (bh 1 (0,1) (i6 3) (bh 1 (0,0) (i6 I.l.now) (M))))) 1 F A d j L 39 [0,0,0,3,0,0,2,1,1,0,0,1,3,0,0,1,0,0,2,1,2,0,0,4] 7 [4] [(4,ptr B)] 28 3 [4] λQ p m i s D G=>cC F m d y i [2,0,0,4] (.agg #[i6 I.l.now,i6 3,i6 b.n,.slice none 0 0]) ?_;have h:=K u e _ p X b none 0 0 v x (f p m.sat.tail.tail.tail ω) n (.inl ⟨rfl,H ω⟩);simp_all
def Ji{k:Nat}{b:Bk}(c:(L.tk t).p=k)(h:Fin V Lf m (some (t,k,some b)) L):∃a,m=a+1/\qm V t L/\Fin V Lf a none (L.end_ t b):=by
 cases m with
 |zero=>exact h.elim
 |succ m=>
  let⟨_,_,_,a,d⟩:=h;simp only[LS.step,c,if_true]at d;simp_all
def Jx(E:TE γ)(J:PK)(Lf:LS->Prop)(t m:Nat)(c:aC)(cs:cO)(R:aW):Prop:=∀m' p' (I:PS) w' X,m'<m->m'<=E.pS p'->Cn E J t p' I w' (X++R)->Fin J.V Lf m' none (I.l.done t)->(t<J.V.nc->fu X (I.oh t) (I.l.ou t).b.ch)->E.Ψ p' (G (c.finish (.tuple #[])) cs) w'
def LQ(W:jF E J Lf t)(FC:rB E J t)(y:t<J.V.nc){p:γ}{s:PS}{R:aW}{v x:Nat}(C:Cn E J t p s w R)(B:Fin J.V Lf m (some (t,0,none)) s.l)(z:m<=E.pS p)(Z:Has R (oR v 0 [.slice (some ⟨J.O,0,none⟩) J.V.nc J.V.nc] false))(Y:Has R (oR x 0 [i6 t] false))(V:Has R (oR bl 0 [Dv J 0] false))(K:Jx E J Lf t m c cs R):
 E.Ψ p (G (Frame.enter prog 30 #[ptr E.T,ptr bl,ptr v,ptr x] .normal) (c::cs)) w:=by
 have O:=C.bd;have T:=C.sat;have u:∀e I w' X,Cn E J t e I w' (X++R)->Sat (E.Ok e) w' [oR v 0 [.slice (some ⟨J.O,0,none⟩) J.V.nc J.V.nc] false,oR x 0 [i6 t] false,oR bl 0 [Dv J 0] false]:=by
  intro e I w' X d;refine d.sat.ED λr Q=>?_;simp only[ak,bH,or_false]at Q;rcases Q with rfl|rfl|rfl
  .exact Has.in Z
  .exact Has.in Y
  .exact Has.in V
 refine cJ func30 T 11 λc c c c h N D m c=>TL W.f aK W.hB h 5 4 [oR v 0 [.slice (some ⟨J.O,0,none⟩) J.V.nc J.V.nc] false,oR x 0 [i6 t] false,oR bl 0 [Dv J 0] false] (Hq [0,0,0,1,1,0,0,1,2,0,0,1]) [(7,Dv J 0),(8,ptr E.T)] 9 31 #[Dv J 0,ptr E.T] ρ ρ ρ ρ ρ m (u p s w [] C) O λcf c c m P=>Ob W FC {C with sat:=c,bd:=by omega} B z λc e I w' X b l n q c c d A L=>?_;have H:=d.ti.cl t d.tn;obtain⟨I,rfl⟩:=PS.P2 d.hk;let⟨a,_,_,c⟩:=H;obtain⟨rfl,k⟩:=c y;obtain⟨S,rfl,c,g⟩:=Ji k A;have c:=d.bd;replace F:=W.f e;replace U:=W.hB e;refine P.ret e _ w' [] [(5,.slice (some ⟨J.O,0,none⟩) J.V.nc J.V.nc),(6,i6 a),(9,.agg #[i6 I.l.now,i6 b.k,i6 b.n,.slice l n q])] _ c (u e _ w' X d) d.sat ρ ρ λc c c m o c c=>?_;rw[D]at o;refine aX (λM=>bh 6 (a,3) (.slice l n q) (bh 6 (a,2) (i6 b.n) (bh 6 (a,1) (i6 b.k) (bh 6 (a,0) (i6 I.l.now) (M))))) 0 F U h o m 3 [6,a,0,104] 6 [] [] 4 1 [5] [] [] [((↑a:Int),J.V.nc)] [(4,(a,J.V.nc))] λc p m c r r r=>cC F m h N c [] (.tuple #[]) ?_;have h:(I.l.tk a).c.toNat=a:=ξ
 have c:(I.l.tk a).p=0:=k;unfold LS.end_ at g;simp only[c,if_true,h]at g;refine K S e {I with k:=J,oh:=upd I.oh a (.slice l n q),l:={I.l with ou:=upd I.l.ou a ⟨I.l.now,b⟩}} p X ω ω ⟨m.sat.re 6 rfl rfl _ λj _ f B=>?_,{d.pv with},{d.qi with},d.fl,d.eH,ω,d.cp.gq ⟨rfl,rfl,rfl,rfl,rfl,rfl,rfl,rfl,rfl,λi c=>⟨_,rfl⟩,⟨rfl,rfl,rfl⟩,λi c=>⟨af c,af c⟩,⟨rfl,rfl,rfl⟩,λ_=>rfl⟩,d.ln,{d.ti with}⟩ g λ_=>?_
 .refine Eq.trans ?_ (xj (C:=yL) (g:=λj=>(I.l.ou j,I.oh j)) (r:=(⟨I.l.now,b⟩,.slice l n q)) rfl rfl j f B);show(yL (upd I.l.ou a ⟨I.l.now,b⟩ j,upd I.oh a (.slice l n q) j)).getD f undef=_;unfold upd;grind
 .show fu X (upd I.oh a _ a) (upd I.l.ou a _ a).b.ch;simp only[upd,if_true];exact L
def WA.own{C:aW}{a:ay}{b:Bk}(h:WA C a b):∃X:List aH,(∀r∈X,Has C r/\r.row=none)/\WA X a b/\∃x y z,a=.agg #[x,y,z]:=by
 rcases h with h|⟨f,q,d,e⟩|h
 .exact⟨[],(λr c=>by cases c),.inl h,_,_,_,h.2⟩
 .let⟨X,a,b⟩:=e.own;exact⟨X,a,.inr (.inl ⟨f,q,d,b⟩),_,_,_,d⟩
 .exact⟨[],(λr c=>by cases c),.inr (.inr h),_,_,_,h.2⟩
def pmF{G T Y:aW}{a:aH}:(G++(W++(a::(T++(X++Y))))).Perm (X++(G++(W++(a::(T++Y))))):=
 j8 λf=>χ
def pmE{P R V O:aW}{a:aH}:(X++(P++(W++(a::(R++(V++O)))))).Perm (P++(a::(R++((W++(X++V))++O)))):=
 j8 λf=>χ
def JP(W:jF E J Lf t)(FC:rB E J t)(htn:J.V.nc<=t){k:Nat}{p:γ}{s:PS}{R:aW}{u S:Nat}(C:Cn E J t p s w R)(hf:Fin J.V Lf m (some (t,(s.l.tk t).p,none)) s.l)(Ts:m<=E.pS p)(hu:s.wk t=.func (.func 185) #[] #[ptr bl,ptr u,ptr S])(hi0:E.i0.wk t=s.wk t)(K:Jx E J Lf t m c cs R):
 E.Ψ p (G (Frame.enter prog 185 #[ptr E.T,ptr bl,ptr u,ptr S] .normal) (c::cs)) w:=by
 have F:=W.f p;have hB:=W.hB p;have m:=C.bd;let⟨n,L,y,D,k,vs,_,_,_,z4,z5,z6,z7,z8,_,m⟩:=C.ti.wk t (by rw[C.hk];exact htn) C.tn;rw[hu]at z7;obtain⟨rfl,rfl,rfl⟩:bl=L/\u=y/\S=D:=by
  simp_all
 rw[z4]at hf;rw[C.hk]at z5 z6 z8;have hcx:∀r,Has s.cx r->Has (pM s++(E.me J t::(R++E.P p s))) r:=λr h=>(((((((h.app (tS s)).cons).app _).app _).pre (E.O p)).app R).cons).app _;have n:=C.eH.lay k z5;let⟨p,m,_⟩:=xT J (k+1);have hS:=(C.sat.get (hcx _ z8)).get (((n.pre _).cons.app (pM s)).cons);rw[m]at hS;refine cJ func185 hS 14 λbb n n n l qh n S0 s=>Rb F hB l n S0 8 [1,0,0,1,0,0,0,1] 1 [] [(10,ptr E.T),(9,.iface p (ptr (J.lb (k+1)))),(2,ptr u),(3,ptr S)] 8 1 [] λn n s n zS Dx o9=>GM F l n 11 50 #[.iface p (.pointer (some (Addr.mk (J.lb (k+1)) 0 none))),ptr E.T] ρ ρ δ s λn P=>?_;rw[show(.iface p (.pointer (some (Addr.mk (J.lb (k+1)) 0 none))):ay)=Dv J (k+1)from m.symm];refine R5 W FC (k:=k+1) ω {C with sat:=s.sat.tail.tail,bd:=by omega} hf Ts λm O I w' X a b m m v Wm ha=>?_;have m:=v.bd;replace F:=W.f O;replace hB:=W.hB O;have m:I.wk t=.func (.func 185) #[] #[ptr bl,ptr u,ptr S]:=by rw[(v.cp.mo.T t W.it).2.2,hi0,hu]
 let⟨f,L,y,D,k',_,y1,y2,_,y4,_,_,y7,n,y9,SX⟩:=v.ti.wk t (by rw[v.hk];exact htn) v.tn;rw[m]at y7;obtain⟨rfl,rfl,rfl⟩:bl=L/\u=y/\S=D:=by
  simp_all
 have aaG:k'=k:=by
  have h1:=(v.cp.mo.tk t W.it).2.2;have h2:=(C.cp.mo.tk t W.it).2.2;omega
 subst aaG;obtain⟨m1,rfl,FR,I5⟩:=Ji y4 Wm;obtain⟨⟨v0,v1,v2,rfl⟩,aaO,k⟩:=v.ti.cm f y2 _ _ SX;have pw:(pM I++(E.me J t::((X++R)++(gS I++E.O O)))).Perm (pM I++(wR I f++(E.me J t::((X++R)++(wX I f++E.O O))))):=by
  refine List.Perm.trans (eN _ (List.Perm.cons _ (eN _ ?_))) (pQ ..);rw[<-dU];exact(og I y2).append_right _
 have k:wR I f=[oR (I.wb f) 1 [i6 (nJ (I.l.wt f))] true,oR (I.wb f) 0 [ptr (I.T (I.l.wt f).t.toNat)] false,oR u 0 [v0,v1,v2] true]:=by unfold wR lf;rw[SX]
 rw[k]at pw;have hM:=(v.sat.perm pw).get (r:=oR S 0 [ptr (I.wb f)] false) (by
  have h1:Has (wX I f) (oR S 0 [ptr (I.wb f)] false):=(((y9.app (tS I)).cons).app _).app _;exact((((h1.pre (E.O O)).app _).cons).app _).app _)
 have tail:∀(Y V U:ay)(T:Act)(N:aj)(B3:Nat),WA X (.agg #[Y,V,U]) b->T.defers=[]->N.heap.size=B3->w'.heap.size<=B3->St (E.Ok O) B3 14 [(12,ptr (I.wb f))] (oR S 0 [ptr (I.wb f)] false::(pM I++([oR (I.wb f) 1 [i6 (nJ (I.l.wt f))] true,oR (I.wb f) 0 [ptr (I.T (I.l.wt f).t.toNat)] false,oR u 0 [Y,V,U] true]++(E.me J t::((X++R)++(wX I f++E.O O)))))) 0 T N->E.Ψ O (G (bb.at T (pc prog 185 13 [] [])) (c::cs)) N:=by
  intro Y V U T N B3 c x A yO o;let⟨Xl,hXl,Xc,_⟩:=c.own;obtain⟨g,d⟩:∃g:PS,g={I with cm:=upd I.cm f (some (u,[Y,V,U])),cx:=Xl++I.cx}:=⟨_,rfl⟩;have B:g.l=I.l:=by rw[d]
  have up:∀r,Has I.cx r->Has g.cx r:=λr h=>by rw[d];exact h.app Xl
  have ht3:TI g:=by
   have cmo:∀i,i≠f->g.cm i=I.cm i:=λi h=>by rw[d];exact af h
   have cmn:g.cm f=some (u,[Y,V,U]):=by rw[d];exact sJ rfl
   have H:=v.ti;refine⟨by rw[d];exact H.nc,by rw[d];exact H.wt,λi hi b' vs z=>?_,by rw[d];exact H.cl,λj h1 h2=>?_,by rw[d];exact H.ch,by rw[d];exact H.can,by rw[d];exact H.zz,by rw[d];exact H.al⟩
   .rw[B,show g.k=I.k by rw[d]];by_cases e:i=f
    .subst e;rw[cmn]at z;cases z;exact⟨⟨_,_,_,rfl⟩,aaO,λq1 q2=>by have:=FR.tf i y1 q1;omega⟩
    .rw[cmo i e]at z;let⟨q1,q2,q3⟩:=H.cm i ξ b' vs z;exact⟨q1,q2,λa b=>(q3 a b).up up⟩
   .rw[B,show g.k=I.k by rw[d]]at*;let⟨w,L,y,D,k',vs,q1,q2,q3,q4,q5,q6,_,q8,_,a⟩:=H.wk j h1 h2;by_cases e:w=f
    .subst e;have:y=u:=ξ
     subst this;exact⟨w,L,y,D,k',_,q1,q2,q3,q4,q5,q6,ξ,up _ q8,ξ,cmn⟩
    .exact⟨w,L,y,D,k',vs,q1,q2,q3,q4,q5,q6,ξ,up _ q8,ξ,ξ⟩
  have hMX:∀r∈Xl,Has (pM I++([oR (I.wb f) 1 [i6 (nJ (I.l.wt f))] true,oR (I.wb f) 0 [ptr (I.T (I.l.wt f).t.toNat)] false,oR u 0 [Y,V,U] true]++(E.me J t::((X++R)++(wX I f++E.O O))))) r:=λr Z=>(((((hXl r Z).1.pre R).pre _).cons).app _).app _;have hwX:(wX g f).Perm (Xl++wX I f):=by
   have e:((List.range I.l.wl).flatMap λj=>if j=f then[]else wR g j)=(List.range I.l.wl).flatMap λj=>if j=f then[]else wR I j:=by
    congr 1;funext i;by_cases e:i=f
    .simp_all
    .rw[af e,af e];unfold wR lf;rw[show g.cm i=I.cm i by rw[d];exact af e,d]
   unfold wX;rw[B,e,show gA g=gA I by rw[d];rfl,show xS g=oR I.k.A 2 [i6 I.l.tl] true::(tS I++(Xl++I.cx)) by rw[d];rfl];exact pmF
  have aaC:wR g f=[oR (I.wb f) 1 [i6 (nJ (I.l.wt f))] true,oR (I.wb f) 0 [ptr (I.T (I.l.wt f).t.toNat)] false,oR u 0 [Y,V,U] true]:=by
   unfold wR lf;rw[show g.cm f=some (u,[Y,V,U]) by rw[d];exact sJ rfl,d]
  have aaN:∀i,(upd I.cm f (some (u,[Y,V,U])) i).map Prod.fst=(I.cm i).map Prod.fst:=λi=>by
   by_cases e:i=f
   .subst e;simp only[upd,if_true];simp_all
   .simp only[upd,af e]
  have C3:Cn E J t O g N (X++R):=by
   refine⟨?_,?_,?_,v.fl,v.eH,ω,v.cp.gq (by rw[d];exact⟨rfl,rfl,rfl,rfl,rfl,rfl,rfl,rfl,rfl,λ_ _=>⟨_,rfl⟩,⟨rfl,rfl,rfl⟩,λ_ _=>⟨rfl,rfl⟩,⟨rfl,rfl,rfl⟩,aaN⟩),by rw[d];exact v.ln,ht3⟩
   .have h1:=o.sat.tail.RI Xl hMX;have h2:=og g (i:=f) ξ;rw[aaC]at h2;rw[show pM g=pM I by rw[d];rfl];refine h1.perm (pmE.trans (eN _ ?_));exact(List.Perm.cons _ (eN _ ((h2.trans (hwX.append_left _)).append_right _))).symm
   .rw[show bA g=bA I by rw[d];rfl,d];refine{v.pv with cx:=λr Z=>?_};rcases dJ.1 Z with Z|Z
    .exact⟨(hXl r Z).1.1,(hXl r Z).2⟩
    .exact v.pv.cx r Z
   .have Q:=v.qi;refine⟨by rw[d];exact Q.lt,by rw[d];exact Q.all,by rw[d];exact Q.pN,by rw[d];exact Q.ws,λi hi=>?_⟩;rw[show g.q=I.q by rw[d]]at hi;rw[B];refine⟨λe=>?_,λh h1=>?_⟩
    .let⟨c,a,k,j,q1,q2,q3,q4,q5,q6⟩:=(Q.cv i hi).1 e;exact⟨c,a,k,j,q1,ξ,ξ,ξ,ξ,ξ⟩
    .let⟨a,S,q1,q2,q3⟩:=(Q.cv i hi).2 h h1;exact⟨a,S,ξ,ξ,ξ⟩
  replace o:St (E.Ok O) B3 14 [(12,ptr (g.wb f))] _ 0 T N:=⟨by rw[show g.wb=I.wb by rw[d]];exact o.env,C3.sat,o.sz⟩;refine ah F l x o 13 180 #[ptr (g.wb f)] λa a=>Ym W C3 (n:=f) (b:=b) ξ ⟨k',ξ,ω⟩ (λc vs z=>?_) (by rw[B];exact FR.al) (by rw[B];exact FR.now) λs4 c r C4 c c=>a _ _ _ C4.sat λa a S4 Vx a=>?_
  .rw[show g.cm f=some (u,[Y,V,U]) by rw[d];exact sJ rfl]at z;cases z;refine Xc.up λr Z=>?_;rw[d];exact Z.pre _
  have a:=C4.bd;refine Rb F hB l Vx S4 1 [] 1 [] [] 15 1 [] λa d c a e e e=>cC F c l qh a [] (.tuple #[]) ?_;refine K m1 O s4 d X ω ω {C4 with sat:=c.sat,bd:=by omega} ?_ λz=>ω
  unfold LS.end_ at I5;simp_all
 rcases ha with ⟨hb,rfl⟩|⟨hb,q,rfl,he⟩|⟨hb,rfl⟩
 .refine P.ret _ _ _ _ _ hM λh g e a c=>aq (λM=>bh 10 (0,2) (.nilIface) (bh 10 (0,1) (.nilIface) (bh 10 (0,0) (i6 b.n) (M)))) 0 F hB l a e 4 [10,0,0,3,0,0,0,1] 1 [] [(12,ptr (I.wb f))] 13 1 [] λT N o x A yO d=>tail (i6 b.n) .nilIface .nilIface T N g (.inl ⟨hb,rfl⟩) x A ω ⟨o.env,o.sat.cast ρ,o.sz⟩
 .refine P.ret _ _ _ _ _ hM λh g e a c=>aq (λM=>bh 10 (0,2) (.nilIface) (bh 10 (0,1) (.iface 184 (ptr q)) (bh 10 (0,0) (i6 0) (M)))) 0 F hB l a e 4 [10,0,0,3,0,0,0,1] 1 [] [(12,ptr (I.wb f))] 13 1 [] λT N o x A yO d=>tail (i6 0) (.iface 184 (ptr q)) .nilIface T N g (.inr (.inl ⟨hb,q,rfl,he⟩)) x A ω ⟨o.env,o.sat.cast ρ,o.sz⟩
 .refine P.ret _ _ _ _ _ hM λh g e a c=>aq (λM=>bh 10 (0,2) (.iface 182 (i6 b.n)) (bh 10 (0,1) (.nilIface) (bh 10 (0,0) (i6 0) (M)))) 0 F hB l a e 4 [10,0,0,3,0,0,0,1] 1 [] [(12,ptr (I.wb f))] 13 1 [] λT N o x A yO d=>tail (i6 0) .nilIface (.iface 182 (i6 b.n)) T N g (.inr (.inr ⟨hb,rfl⟩)) x A ω ⟨o.env,o.sat.cast ρ,o.sz⟩
def Sat.still{b:Nat}(h:Sat (cP N l st) w M)(d:oR b 0 (v::vs) false∈M):Sat (cP N l ((⟨b,0,none⟩,u)::st)) w M:=by
 refine h.OB (λr _ j _ o=>⟨o.1,λz=>by cases z⟩) (λr f c j g o=>⟨o.1,λ_=>⟨(o.2 rfl).1,fun⟨p,a,e⟩=>?_⟩⟩);rcases ak.1 a with rfl|a
 .simp only[Loc.cell.injEq]at e;exact h.dj f d c rfl g (j':=(0,0)) ⟨aD,ψ⟩ e
 .exact(o.2 rfl).2 ⟨p,a,e⟩
def PV.still{b:Nat}{s:PS}{es:jl}(P:PV (cP N l st) s es)(h:Sat (cP N l st) w (pM s++C))(f:oR b 0 (v::vs) false∈pM s++C)(y:∀r∈gS s,r∈pM s++C)(m:∀k,k<s.k.V.nl->(s.k.V.ly k).k=5->(s.f k).s=true->(s.f k).g≠b)(m:∀j,j<s.l.tl->(s.bf j).s=true->(s.bf j).g≠b):PV (cP N l ((⟨b,0,none⟩,u)::st)) s es:=by
 refine P.okT (T:=b) (λa wr l o=>⟨o.1,λz=>⟨(o.2 z).1,fun⟨p,i,e⟩=>?_⟩⟩) (λa t z=>?_) (λa z=>?_) (λk q n x=>?_) m
 .rcases ak.1 i with rfl|i
  .simp_all
  .exact(o.2 z).2 ⟨p,i,e⟩
 .rcases P.jr.row with ⟨c,_⟩|⟨g,c,a⟩
  .simp_all
  .have d:vR s.ea 5 (λj=>yt (s.l.ev j)) s.l.el s.ec 73∈pM s++C:=gU _ (by simp[pM]);refine h.dj d f rfl rfl (j:=(0,0)) (j':=(0,0)) ⟨a,(by decide:0<5)⟩ ⟨aD,ψ⟩ ?_;rw[c]at t;cases t;show(((s.ea).getD ⟨0,0,none⟩).add (0*5)).add 0=(⟨b,0+0,none⟩:Addr)
   rw[c];show((⟨g,0,none⟩:Addr).add (0*5)).add 0=_;rw[add_add];simp_all
 .have a:0<s.eb.n:=by
   rcases P.en.2 with ⟨_,_,c⟩|⟨_,_,_,_,_,_,z,_⟩
   .omega
   .exact z
  have d:eR s.eb∈pM s++C:=gU _ (by simp[pM]);refine h.dj d f rfl rfl (j:=(0,0)) (j':=(0,0)) ⟨ξ,a⟩ ⟨aD,ψ⟩ ?_;simp_all
 .rcases n with a|c
  .intro z;have c:=(P.fb k q a).len x;refine h.dj (y _ (K4 q _ (On a))) f rfl rfl (j:=(0,0)) (j':=(0,0)) ⟨χ,aD⟩ ⟨aD,ψ⟩ ?_;show((⟨(s.f k).g,0,none⟩:Addr).add (0*1)).add 0=(⟨b,0+0,none⟩:Addr)
   rw[add_add,z]
  simp_all
def Sat.J5{s:PS}(h:Sat O w M)(a:∀r∈gS s,r∈M)(a:∃Z,M.Perm (gS s++Z))(d:i<s.l.tl)(c:j<s.l.tl)(f:s.T i=s.T j):i=j:=by
 let⟨Z,f⟩:=a;refine Classical.byContradiction λa=>?_;have b:=h.perm (f.trans ((jw s d).append_right Z));rw[sat_iff,dU]at b;have d:=(YS.1 b.2).2.2 (dO (s.T i) (j9 s.wb (s.l.tk i).o) (su (s.bf i) (s.bl i).length) (s.l.tk i).x (s.l.tk i).e) (by simp[j7]) (dO (s.T j) (j9 s.wb (s.l.tk j).o) (su (s.bf j) (s.bl j).length) (s.l.tk j).x (s.l.tk j).e) (gU _ (by
  unfold tX;refine gF _ (gF _ (aP _ (gU _ ?_)));refine mL.2 ⟨j,aZ.2 c,?_⟩;rw[af (λe=>a e.symm)];simp[j7]))
 exact d (.inl rfl) (0,0) (0,0) ⟨aD,(by decide:0<4)⟩ ⟨aD,(by decide:0<4)⟩ ξ
def Sat.Yr{b:Nat}(h:Sat O w' M)(d:w'.cell? ⟨b,0,none⟩=some v)(f:O ⟨b,0,none⟩ false)(c:∀r∈M,r.wr=true->∀j,r.has j->(r.ad j).block≠b):Sat O w' (oR b 0 [v] false::M):=by
 rw[sat_iff]at h ⊢;refine⟨λr c=>?_,iG.2 ⟨λr c i j i a i e=>?_,h.2⟩⟩
 .rcases ak.1 c with rfl|c
  .have c:∀j:Ix,(oR b 0 [v] false).has j->j=(0,0):=λj a=>by
    let⟨_,b⟩:=a;grind
   exact⟨λj a=>by rw[c j a];exact d,λj a=>⟨by rw[c j a];exact f,λz=>(by cases z)⟩,λz=>(by cases z),λg e n z=>(by cases z)⟩
  simp_all
 grind
def Sat.Rz:∀{Z:aW},Sat O w M->(∀r∈Z,r∈M/\r.wr=false)->Sat O w (Z++M)
 |[],h,_=>h
 |r::Z,h,b=>by
  have e:=Sat.Rz (Z:=Z) h λc a=>b c (aP _ a);let⟨d,c⟩:=b r (bI ..);let⟨i,a⟩:=lP d;exact e.get (Has.app (C:=M) ⟨c,i,a⟩ Z)
abbrev cu{α:Type}(f:Nat->α)(i:Nat)(x:α):Nat->α:=Go.ConcN.upd f i x
def bz(f:Nat->α)(i:Nat)(x:α):cu f i x i=x:=Go.ConcN.upd_same ..
def gk(f:Nat->α)(x:α)(h:j≠i):cu f i x j=f j:=Go.ConcN.upd_ne _ _ h
structure RN where
 wI:World
 l:List Nat
 k:PK
 cR:Frame
 lT:List Frame
 S:List aH
 W:List aH
 Lf:LS->Prop
 n:Nat
 bi:Nat->Nat
 bl:Nat
 bo:Nat
abbrev KX(A:Nat):Value:=.pointer (some ⟨A,5,none⟩)
structure tZ(R:RN):Prop where
 V:wM R.k.V
 hn:R.n=9990
 hA:R.k.A∈R.l
 ll:∀x∈R.l,x<=R.k.A
 iA:R.wI.heap.size<=R.k.A
 iw:R.wI.heap.size<=R.k.bM
 ie:R.wI.heap.size<=R.k.bJ
 we:R.k.bM≠R.k.bJ
 eH:0<R.k.V.nc->yF R.k R.S
 fl:Flat R.S
 flW:Flat R.W
 ro:∀r∈R.S,r.wr=false
 ch:Has R.S (oR R.k.A 3 [.chan (some R.k.bM),.chan (some R.k.bJ)] false)
 hbi:∀j,j<R.k.V.nc->Has R.S (oR (R.bi j) 0 [i6 j] false)
 Ja:Has R.S (oR R.bo 0 [.slice (some ⟨R.k.O,0,none⟩) R.k.V.nc R.k.V.nc] false)
 KP:Has R.S (oR R.bl 0 [Dv R.k 0] false)
structure yH where
 κ:Nat
 wn:Nat
 x:Nat
 bg:Nat
 c:Frame
 cs:List Frame
 R:List aH
 ly:Int
 b:Bk
 a:Nat->Int
 qq:Nat->Int
 ps:PS
abbrev TQ:=Option (yH ⊕ Bool)
abbrev jm(q:yH):TQ:=some (.inl q)
abbrev ld:TQ:=some (.inr false)
abbrev Da:TQ:=some (.inr true)
def Tg(s:TQ):s=none\/(∃q,s=jm q)\/s=ld\/s=Da:=by
 match s with
 |none=>simp
 |some (.inl q)=>simp
 |some (.inr false)=>simp
 |some (.inr true)=>simp
def own:TQ->List aH
 |some (.inl q)=>q.R
 |_=>[]
def A6:TQ->Nat
 |none=>0
 |_=>1
def G8:TQ->Nat
 |some (.inl _)=>1
 |_=>0
structure Gd where
 st:List (Addr×Value)
 ng:Nat
 L:Nat
 nb:Nat
 Inb:Nat->Option Seat
 St:Nat->Loc->Prop
 tk:Nat->TQ
 dn:List aH
 cc:List (Nat×Nat)
def tv(R:RN)(tk:Nat->TQ):List aH:=(List.range R.n).flatMap λj=>own (tk j)
def nD(R:RN)(σ:Gd):List aH:=tv R σ.tk++(σ.dn++R.S)
abbrev dD(R:RN)(σ:Gd)(s:PS):List aH:=gS s++nD R σ
abbrev Gd.sd(σ:Gd)(R:RN):Nat:=sumTo R.n λj=>A6 (σ.tk j)
abbrev Gd.pk(σ:Gd)(R:RN):Nat:=sumTo R.n λj=>G8 (σ.tk j)
abbrev cD(R:RN)(σ:Gd):List Nat:=R.k.bM::R.k.bJ::σ.cc.map Prod.snd
def uz{R:RN}{tk:Nat->TQ}(c:i<R.n){b:Bool}:(tv R tk).Perm (own (tk i)++tv R (cu tk i (some (.inr b)))):=by
 have:=nI (λj=>own (tk j)) (λj=>own (cu tk i (some (.inr b)) j)) i (by simp only[bz];rfl) (λj a=>by simp only[gk _ _ a]) R.n;rw[sJ c]at this;exact this
def RH(f:Nat->α)(i:Nat)(x y:α):cu (cu f i x) i y=cu f i y:=by
 funext j;by_cases e:j=i
 .subst e;rw[bz,bz]
 .rw[gk _ _ e,gk _ _ e,gk _ _ e]
def RG(f:Nat->α)(i:Nat)(x:α)(h:f i=x):cu f i x=f:=by
 funext j;by_cases e:j=i
 .subst e;rw[bz,h]
 .rw[gk _ _ e]
abbrev jO(R:RN)(σ:Gd):Addr->Bool->Prop:=cP R.wI.heap.size R.l σ.st
abbrev sN(R:RN)(Post:qz)(σ:Gd)(h:Nat):Goroutine->World->Prop:=fP prog Post (KD R.wI R.k.A (cD R σ) σ.st) (QD R.k.A) (jq R.l) σ.St σ.Inb (hU R.k.A) σ.L σ.nb h σ.ng 0
def th(L:LS)(c:Int)(w:Nat):Prop:=c=1/\(L.wt w).x=false\/(c=2\/c=3)/\(L.wt w).x=true/\(L.wt w).z=c
def lX(L:LS)(i t w:Nat):Prop:=(L.ag i).t=t/\(L.ag i).w=w/\(L.wt w).e=false/\th L (L.ag i).c w
structure aaV(R:RN)(σ:Gd)(s:PS)(j:Nat)(q:yH):Prop where
 tn:j<s.l.tl
 yN:σ.Inb q.κ=some (lB (s.aS j) q.c q.cs)
 BW:0<q.κ
 Lu:q.κ<σ.ng
 bg:(⟨q.bg,0,none⟩,KX R.k.A)∈σ.st
 x:(⟨q.x,0,none⟩,ptr (s.T j))∈σ.st
 wn:q.wn<s.l.wl
 wb:s.wb q.wn=q.x
 wl:(s.l.wt q.wn).l=q.ly
 wk:q.ly=R.k.V.nl->(s.l.wt q.wn).b=q.b
 wt:(s.l.wt q.wn).t=j
 we:(s.l.wt q.wn).e=false
 a:(s.l.tk j).a=q.a
 tq:(s.l.tk j).q=q.qq
 eH:yF R.k q.R
 fl:Flat q.R
 mo:Mo q.ps s
structure Co(R:RN)(σ:Gd)(s:PS)(B:Nat):Prop where
 hk:s.k=R.k
 Ku:0<σ.ng
 IB:R.wI.heap.size<=B
 AB:R.k.A<B
 st:∀p∈σ.st,p.1.off≠5/\p.1.off≠6/\p.1.block<B
 sA:∀y∈qd R.k.A R.k.bM R.k.bJ,y∈σ.st
 sT:∀q∈σ.cc,(⟨q.1,3,none⟩,Value.chan (some q.2))∈σ.st
 cs:∀j,j<s.l.tl->(s.T j,s.aS j)∈σ.cc
 ci:∀q∈σ.cc,∀q'∈σ.cc,q.2=q'.2->q.1=q'.1
 cb:∀q∈σ.cc,R.wI.heap.size<=q.2/\q.2<B/\q.2≠R.k.bM/\q.2≠R.k.bJ
 wB:R.k.bM<B/\R.k.bJ<B
 tl:s.l.tl<=R.n
 fr:∀j,s.l.tl<=j->σ.tk j=none
 wk:∀j,j<R.k.V.nc->s.wk j=.func (.func 30) #[] #[ptr R.bl,ptr R.bo,ptr (R.bi j)]
 L9:∀g x,(σ.Inb g).isSome->σ.St g x->wD σ.st x
 yN:∀g e,σ.Inb g=some e->g≠0->∃j q,σ.tk j=jm q/\q.κ=g
 pk:∀j q,σ.tk j=jm q->aaV R σ s j q
 jz:∀i∈s.q,∃t:Nat,t<s.l.tl/\(s.l.ag i).t=t/\(((s.l.ag i).c=0/\σ.tk t=none)\/∃w:Nat,(s.l.ag i).w=w/\w<s.l.wl/\(((s.l.ag i).c=1/\((s.l.wt w).x=true\/(s.l.wt w).e=true))\/(th s.l (s.l.ag i).c w/\∃q,σ.tk t=jm q/\q.wn=w)))
 ql:∀i∈s.q,i<s.l.al
 nd:s.q.Nodup
 all:∀t:Nat,t<s.l.tl->(σ.tk t=none->∃i∈s.q,(s.l.ag i).t=t/\(s.l.ag i).c=0)/\∀q,σ.tk t=jm q->∃i∈s.q,lX s.l i t q.wn
 DK:∀i∈s.q,∀j∈s.q,∀t wi wj:Nat,(lX s.l i t wi\/(s.l.ag i).t=t/\(s.l.ag i).c=0)->(lX s.l j t wj\/(s.l.ag j).t=t/\(s.l.ag j).c=0)->i=j
 wa:∀w,w<s.l.wl->(s.l.wt w).x=false->(s.l.wt w).e=false->∃t q,σ.tk t=jm q/\q.wn=w
 nb:σ.nb<=σ.sd R
 ed:∀j,j<R.k.V.nc->σ.tk j=Da->fu (σ.dn++R.S) (s.oh j) (s.l.ou j).b.ch
 RE:Flat σ.dn
 dW:∃Y,σ.dn=Y++R.W
abbrev lz(R:RN):Seat:=lC R.k.bM R.k.bJ (BT R.k.A R.k.bM R.k.bJ (R.cR::R.lT))
structure ud(R:RN)(σ:Gd)(s:PS)(B t κ bg:Nat):Prop where
 co:Co R σ s B
 tn:t<s.l.tl
 lv:σ.tk t=ld
 oth:∀j,j≠t->σ.tk j≠ld
 i0:σ.Inb 0=some (lz R)
 BW:0<κ
 Lu:κ<σ.ng
 TD:σ.Inb κ=none
 bg:(⟨bg,0,none⟩,KX R.k.A)∈σ.st
 L:σ.L=σ.pk R+1
def Hs(R:RN)(s:PS):Prop:=∀k,k<R.k.V.nl->(R.k.V.ly k).k=5->yV (s.lq k) s.l.wl s.l.wt k
abbrev x6(s:PS)(j:Nat):aH:=wF (s.T j) s.k.A j (s.l.tk j).c (s.aS j)
def Sa(R:RN)(Post:qz)(P:Nat->yH->Prop)(m j:Nat)(q:yH):Prop:=∀(σ:Gd)(s:PS)(w:aj),ud R σ s w.heap.size j q.κ q.bg->Sat (jO R σ) w (pM s++(x6 s j::(q.R++dD R σ s)))->PV (jO R σ) s (bA s)->QI s->TI s->Hs R s->∀z:Int,u0 R.k.V R.Lf m j q.wn z s.l->
 (s.l.wt q.wn).l=q.ly->(q.ly=R.k.V.nl->(s.l.wt q.wn).b=q.b)->(s.l.tk j).a=q.a->Mo q.ps s/\(z≠1->(s.l.wt q.wn).x=true/\(s.l.wt q.wn).z=z)->(s.l.tk j).q=q.qq->(∀j' q',σ.tk j'=jm q'->P j' q')->sN R Post σ q.κ (G (q.c.finish (i6 z)) q.cs) w
def lV(R:RN)(Post:qz):Nat->Nat->yH->Prop
 |0,_,_=>True
 |m+1,j,q=>lV R Post m j q/\Sa R Post (lV R Post m) m j q
def lV.of{R:RN}{Post:qz}{j:Nat}{q:yH}:∀{m:Nat},(∀a,a<m->Sa R Post (lV R Post a) a j q)->lV R Post m j q
 |0,_=>trivial
 |m+1,h=>⟨lV.of λa b=>h a (BX b),h m (gr m)⟩
def lV.mono{R:RN}{Post:qz}{j:Nat}{q:yH}:∀{m a:Nat},m<=a->lV R Post a j q->lV R Post m j q
 |m,0,h,x=>ξ
 |m,a+1,h,x=>by
  by_cases e:m=a+1
  .simp_all
  .exact lV.mono (Nat.le_of_lt_succ (Nat.lt_of_le_of_ne h e)) x.1
def p7(R:RN)(Post:qz)(m:Nat):Prop:=∀(σ:Gd)(s:PS)(w:aj)(g:aV),Co R σ s w.heap.size->(∀j,σ.tk j≠ld)->σ.Inb 0=none->σ.L=σ.pk R->Sat (jO R σ) w (pM s++dD R σ s)->PV (jO R σ) s (bA s)->QI s->TI s->Hs R s->Fin R.k.V R.Lf m none s.l->
 (∀j q,σ.tk j=jm q->lV R Post m j q)->qo R.k.A (R.cR::R.lT) g->sN R Post σ 0 g w
structure L4(R:RN)(Post:qz)(Λ t κ bg:Nat) where
 σ:Gd
 s0:PS
 B:Nat
 pS:Nat
 N7:ud R σ s0 B t κ bg
 rs:∀j q,σ.tk j=jm q->lV R Post pS j q
 lt:pS<Λ
def eD(R:RN)(Post:qz)(Λ t κ bg:Nat)(i0:PS):TE (L4 R Post Λ t κ bg):=⟨λp=>jO R p.σ,λp=>sN R Post p.σ κ,λp=>p.B,λp=>nD R p.σ,λp=>p.s0,λp=>p.pS,λp=>p.σ.cc,i0.T t,i0.aS t,(i0.l.tk t).c,i0⟩
section
variable{R:RN}{σ:Gd}{s I:PS}
def Co.n5(C:Co R σ s B):∀p∈σ.st,p.1≠⟨R.k.A,5,none⟩:=λp a e=>by have:=(C.st p a).1;simp_all
def Co.n6(C:Co R σ s B):∀p∈σ.st,p.1≠⟨R.k.A,6,none⟩:=λp a e=>by have:=(C.st p a).2.1;simp_all
def Bx(f:bU)(m:Nat)(b:∀j,m<=j->f j=0)(a:∀j,f j<=1):∀n,sumTo n f<=m
 |0=>gl _
 |n+1=>by
  have c:∀n,sumTo n f<=n:=λn=>by
   induction n with
   |zero=>exact az _
   |succ n c=>have:=a n;show sumTo n f+f n<=_;omega
  show sumTo n f+f n<=m;by_cases e:m<=n
  .rw[b n e];exact Bx f m b a n
  grind
def Co.sdl(C:Co R σ s B):σ.sd R<=s.l.tl:=Bx _ _ (λj a=>by rw[C.fr j a];rfl) (λj=>by unfold A6;grind) _
def Co.PG(C:Co R σ s B)(H:tZ R):σ.nb<=9990:=aT C.nb (aT C.sdl (by rw[<-H.hn];exact C.tl))
def Co.hB(C:Co R σ s B)(H:tZ R)(a:Addr)(wr:Bool)(h:B<=a.block):jO R σ a wr:=by
 refine⟨fun⟨c,b,a⟩=>?_,λ_=>⟨aT C.IB h,fun⟨p,a,e⟩=>?_⟩⟩
 .have d:=H.ll c b;have b:=C.AB;grind
 .have:=(C.st p a).2.2;grind
def Co.Jh(C:Co R σ s B)(H:tZ R)(h:Nat):aB prog (h==0) (DX (jO R σ)) (sN R Post σ h):=aal H.hA H.iA (aT (C.PG H) δ) C.n5 C.L9 h
def Co.mono(C:Co R σ s B)(h:B<=B'):Co R σ s B':={C with IB:=aT C.IB h,AB:=ga C.AB h,st:=λp a=>⟨(C.st p a).1,(C.st p a).2.1,ga (C.st p a).2.2 h⟩,cb:=λq a=>⟨(C.cb q a).1,ga (C.cb q a).2.1 h,(C.cb q a).2.2⟩,wB:=⟨ga C.wB.1 h,ga C.wB.2 h⟩}
def Co.gq(C:Co R σ s B)(a:σ.tk t=ld)(h:Gq t s I):Co R σ I B:=by
 let⟨Q3,b,a⟩:=h.T;refine{C with hk:=h.k.trans C.hk,cs:=by rw[h.tl,Q3,b];exact C.cs,tl:=by rw[h.tl];exact C.tl,fr:=by rw[h.tl];exact C.fr,wk:=by rw[a];exact C.wk,pk:=λj q a=>?_,jz:=?_,ql:=?_,nd:=?_,all:=?_,DK:=?_,wa:=?_,ed:=λj d f=>?_}
 .have P:=C.pk j q a;have a:j≠t:=λe=>ξ
  let⟨x,c⟩:=h.tk j a;exact{P with tn:=by rw[h.tl];exact P.tn,yN:=by rw[b];exact P.yN,x:=by rw[Q3];exact P.x,wn:=by rw[h.wl];exact P.wn,wb:=by rw[h.wb];exact P.wb,wl:=by rw[h.wt];exact P.wl,wk:=by rw[h.wt];exact P.wk,wt:=by rw[h.wt];exact P.wt,we:=by rw[h.wt];exact P.we,a:=by rw[c];exact P.a,tq:=by rw[c];exact P.tq,mo:=P.mo.trans h.mo}
 .unfold th;rw[h.q,h.ag,h.wt,h.wl,h.tl];exact C.jz
 .rw[h.q,h.al];exact C.ql
 .rw[h.q];exact C.nd
 .unfold lX th;rw[h.q,h.ag,h.wt,h.tl];exact C.all
 .unfold lX th;rw[h.q,h.ag,h.wt];exact C.DK
 .rw[h.wl,h.wt];exact C.wa
 .have a:j≠t:=λe=>ξ
  rw[(h.ou j a).1,(h.ou j a).2];exact C.ed j d f
def IC{q a:aN}(h:a=q.take i++x::q.drop i)(j:Nat):j∈a↔j=x\/j∈q:=by
 rw[h]
 conv=>rhs;rhs;rw[<-va i q]
 grind
def CB{q a:aN}(h:a=q.take i++x::q.drop i)(b:q.Nodup)(c:x∉q):a.Nodup:=by
 rw[h];rw[<-va i q]at b c;grind
def Co.gc(C:Co R σ s B)(h:Gc s I n i):Co R σ I B:=by
 let⟨Q3,T,hT3⟩:=h.T;let⟨i,B,M,D⟩:=h.l;have F:∀j,j≠n->I.l.wt j=s.l.wt j:=λj d=>by rw[D];simp[LS.fix,LS.put,upd,d]
 have v:I.l.wt n={s.l.wt n with x:=true,z:=i,b:=B}:=by rw[D];simp[LS.fix,LS.put,upd]
 have g:∀j,j<s.l.al->I.l.ag j=s.l.ag j:=λj d=>by rw[D];simp[LS.fix,LS.put,upd,iS d]
 have V:I.l.ag s.l.al=⟨s.l.now,(s.l.wt n).t,n,i,false⟩:=by rw[D];simp[LS.fix,LS.put,upd]
 have G:I.l.wl=s.l.wl:=by rw[D];rfl
 have p:I.l.tl=s.l.tl:=by rw[D];rfl
 have Q:I.l.tk=s.l.tk:=by rw[D];rfl
 have x:∀j,(I.l.wt j).l=(s.l.wt j).l/\(I.l.wt j).t=(s.l.wt j).t/\(I.l.wt j).e=(s.l.wt j).e:=λj=>by
  grind
 have f:=λj=>IC (j:=j) h.q;let⟨u,qu,J,H⟩:=C.wa n h.wn h.x h.e;have i:=C.pk u qu J;have N:=i.tn;have O:(s.l.wt n).t=(u:Int):=by rw[<-H];exact i.wt
 let⟨i0,S,m⟩:=(C.all u N).2 qu J;rw[H]at m;have L:∀(c:Int) w,w≠n->(th I.l c w↔th s.l c w):=λc w hw=>by unfold th;simp_all
 have old:∀j∈s.q,∀t w:Nat,lX I.l j t w->lX s.l j t w/\w≠n:=λj d t w l=>by
  unfold lX at l;rw[g j (C.ql j d)]at l;have A:w≠n:=λe=>by
   subst e;let⟨r,U,c,h4⟩:=l;unfold th at h4;rw[v]at h4;rcases h4 with ⟨_,z⟩|⟨z,_⟩
   .cases z
   .let⟨c,a1,a2,a3⟩:=C.jz j d;rcases a3 with ⟨y,_⟩|⟨w',y1,y2,Y⟩
    .omega
    .have:w'=w:=ω
     subst this;rcases Y with ⟨y,_⟩|⟨⟨y,_⟩|⟨_,y,_⟩,_⟩
     .omega
     .omega
     .rw[h.x]at y;cases y
  rw[(x w).2.2,L _ w A]at l;exact⟨l,A⟩
 have c:∀t w:Nat,lX I.l s.l.al t w->t=u/\w=n:=λt w l=>by
  unfold lX at l;grind
 have key:∀j∈s.q,∀w:Nat,(lX I.l j u w\/(I.l.ag j).t=u/\(I.l.ag j).c=0)->False:=λj d w l=>by
  rcases l with l|l
  .let⟨r,U⟩:=old j d u w l;have:=C.DK j d i0 S u w n (.inl r) (.inl m);subst this;have:=r.2.1;have:=m.2.1;omega
  .rw[g j (C.ql j d)]at l;have:=C.DK j d i0 S u n n (.inr l) (.inl m);subst this;rcases m.2.2.2 with z|z<;>omega
 refine{C with hk:=h.k.trans C.hk,cs:=by rw[p,Q3,T];exact C.cs,tl:=by rw[p];exact C.tl,fr:=by rw[p];exact C.fr,wk:=by rw[hT3];exact C.wk,pk:=λj q W=>?_,jz:=λj d=>?_,ql:=λj d=>?_,nd:=?_,all:=λt c=>⟨λhf=>?_,λq W=>?_⟩,DK:=λa K b E t wa Z r U=>?_,wa:=λw hw hx X=>?_,ed:=λj d X=>?_}
 .have P:=C.pk j q W;have A:q.ly=R.k.V.nl->q.wn≠n:=λz e=>by
   let⟨k,c,r2⟩:=h.r;have:=P.wl;rw[e,c,z]at this;rw[C.hk]at r2;omega
  exact{P with tn:=by rw[p];exact P.tn,yN:=by rw[T];exact P.yN,x:=by rw[Q3];exact P.x,wn:=by rw[G];exact P.wn,wb:=by rw[h.wb];exact P.wb,wl:=by rw[(x _).1];exact P.wl,wk:=λz=>by rw[F _ (A z)];exact P.wk z,wt:=by rw[(x _).2.1];exact P.wt,we:=by rw[(x _).2.2];exact P.we,a:=by rw[Q];exact P.a,tq:=by rw[Q];exact P.tq,mo:=P.mo.trans h.mo}
 .rw[p];rcases(f j).1 d with rfl|d
  .rw[V];exact⟨u,N,O,.inr ⟨n,rfl,by rw[G];exact h.wn,.inr ⟨.inr ⟨M,by rw[v],by rw[v]⟩,qu,J,H⟩⟩⟩
  .rw[g j (C.ql j d)];let⟨t,a1,a2,a3⟩:=C.jz j d;refine⟨t,a1,a2,a3.imp id ?_⟩;rintro ⟨w,y1,y2,Y⟩;refine⟨w,y1,ω,?_⟩;by_cases e:w=n
   .subst e;rcases Y with ⟨y,_⟩|⟨⟨y,_⟩|⟨_,y,_⟩,_⟩
    .grind
    .grind
    .rw[h.x]at y;cases y
   grind
 .have:I.l.al=s.l.al+1:=by rw[D];rfl
  rcases(f j).1 d with rfl|d
  .omega
  .have:=C.ql j d;omega
 .exact CB h.q C.nd λz=>by have:=C.ql _ z;omega
 .let⟨j,d,r,U⟩:=(C.all t ω).1 hf;exact⟨j,(f j).2 (.inr d),by rw[g j (C.ql j d)];omega⟩
 .by_cases e:q.wn=n
  .have htt:t=u:=by
    have:=(C.pk t q W).wt;grind
   subst htt;refine⟨s.l.al,(f _).2 (.inl rfl),?_⟩;unfold lX th;rw[V,e,v];exact⟨O,rfl,h.e,.inr ⟨M,rfl,rfl⟩⟩
  .let⟨j,d,r⟩:=(C.all t ω).2 q W;refine⟨j,(f j).2 (.inr d),?_⟩;unfold lX at r ⊢;rw[g j (C.ql j d),L _ _ e,F _ e];exact r
 .rcases(f a).1 K with rfl|K
  .rcases(f b).1 E with rfl|E
   .rfl
   .have o:t=u:=by
     grind
    subst o;exact(key b E Z U).elim
  .rcases(f b).1 E with rfl|E
   .have o:t=u:=by
     grind
    subst o;exact(key a K wa r).elim
   .refine C.DK a K b E t wa Z (r.imp (λz=>(old a K t wa z).1) λz=>?_) (U.imp (λz=>(old b E t Z z).1) λz=>?_)
    .rw[g a (C.ql a K)]at z;exact z
    .rw[g b (C.ql b E)]at z;exact z
 .have e:w≠n:=λz=>χ
  rw[F w e]at hx X;rw[G]at hw;exact C.wa w hw hx X
 .rw[h.oh,show I.l.ou=s.l.ou by rw[D];rfl];exact C.ed j d X
def Co.gb(C:Co R σ s B){w k T c:Nat}(X:(T,c)∈σ.cc)(V:s.l.tl<R.n)(V:R.k.V.nc<=s.l.tl)(h:Gb s I t w k i T c u):Co R σ I B:=by
 let⟨Q3,F,N⟩:=h.T;have p:=h.l;have g:∀j,(I.l.wt j).l=(s.l.wt j).l/\(I.l.wt j).t=(s.l.wt j).t/\(I.l.wt j).e=(s.l.wt j).e/\(I.l.wt j).x=(s.l.wt j).x/\(I.l.wt j).z=(s.l.wt j).z/\(I.l.wt j).b=(s.l.wt j).b:=λj=>by
  rw[p];by_cases e:j=w
  .subst e;simp[LS.begin,LS.put,upd]
  .simp[LS.begin,LS.put,upd,e]
 have l:∀j,j<s.l.al->I.l.ag j=s.l.ag j:=λj d=>by rw[p];simp[LS.begin,LS.put,upd,iS d]
 have Q:I.l.ag s.l.al=⟨s.l.now,s.l.tl,0,0,false⟩:=by rw[p];simp[LS.begin,LS.put,upd]
 have A:I.l.wl=s.l.wl:=by rw[p];rfl
 have o:I.l.tl=s.l.tl+1:=by rw[p];rfl
 have D:∀j,j<s.l.tl->I.l.tk j=s.l.tk j:=λj d=>by rw[p];exact af (iS d)
 have n:∀j,j<s.l.tl->I.T j=s.T j/\I.aS j=s.aS j:=λj d=>by rw[Q3,F];exact⟨af (iS d),af (iS d)⟩
 have f:=λj=>IC (j:=j) h.q;have i:∀(c:Int) w,(th I.l c w↔th s.l c w):=λc w=>by unfold th;simp_all
 have v:∀j∈s.q,∀t w:Nat,lX I.l j t w↔lX s.l j t w:=λj d t w=>by unfold lX;rw[l j (C.ql j d),(g w).2.2.1,i]
 have c:∀t w:Nat,¬lX I.l s.l.al t w:=λt w Y=>by
  unfold lX th at Y;simp_all
 have M:Mo s I:=h.mo;have y:∀j∈s.q,∀w,¬(lX I.l j s.l.tl w\/(I.l.ag j).t=s.l.tl/\(I.l.ag j).c=0):=λj d w E=>by
  let⟨c,a1,Z,_⟩:=C.jz j d;rcases E with E|E
  .have:=((v j d _ w).1 E).1;omega
  .rw[l j (C.ql j d)]at E;omega
 refine{C with hk:=h.k.trans C.hk,cs:=λj d=>?_,tl:=ω,fr:=λj d=>C.fr j ω,wk:=λj d=>by rw[N];simp only[upd];rw[af ω];exact C.wk j d,pk:=λj q G=>?_,jz:=λj d=>?_,ql:=λj d=>?_,nd:=?_,all:=λt c=>⟨λW=>?_,λq G=>?_⟩,DK:=λa x b r t L K J O=>?_,wa:=λw U S H=>?_,ed:=λj d H=>?_}
 .by_cases e:j=s.l.tl
  .subst e;rw[Q3,F];simp only[upd,if_true];exact X
  .have c:j<s.l.tl:=ω
   rw[(n j c).1,(n j c).2];exact C.cs j c
 .have P:=C.pk j q G;exact{P with tn:=by rw[o];exact BX P.tn,yN:=by rw[(n j P.tn).2];exact P.yN,x:=by rw[(n j P.tn).1];exact P.x,wn:=by rw[A];exact P.wn,wb:=by rw[h.wb];exact P.wb,wl:=by rw[(g _).1];exact P.wl,wk:=λz=>by rw[(g _).2.2.2.2.2];exact P.wk z,wt:=by rw[(g _).2.1];exact P.wt,we:=by rw[(g _).2.2.1];exact P.we,a:=by rw[D j P.tn];exact P.a,tq:=by rw[D j P.tn];exact P.tq,mo:=P.mo.trans M}
 .rw[o];rcases(f j).1 d with rfl|d
  .rw[Q];exact⟨s.l.tl,gr _,rfl,.inl ⟨rfl,C.fr _ (az _)⟩⟩
  .rw[l j (C.ql j d)];let⟨t,a1,Z,c⟩:=C.jz j d;grind
 .have:I.l.al=s.l.al+1:=by rw[p];rfl
  rcases(f j).1 d with rfl|d
  .omega
  .have:=C.ql j d;omega
 .exact CB h.q C.nd λz=>by have:=C.ql _ z;omega
 .by_cases e:t=s.l.tl
  .simp_all
  .let⟨j,d,J,O⟩:=(C.all t ω).1 W;exact⟨j,(f j).2 (.inr d),by rw[l j (C.ql j d)];omega⟩
 .have c:=(C.pk t q G).tn;let⟨j,d,J⟩:=(C.all t c).2 q G;grind
 .rcases(f a).1 x with rfl|x
  .rcases(f b).1 r with rfl|r
   .rfl
   .have m:t=s.l.tl:=by
     grind
    subst m;exact(y b r K O).elim
  .rcases(f b).1 r with rfl|r
   .have m:t=s.l.tl:=by
     grind
    subst m;exact(y a x L J).elim
   .refine C.DK a x b r t L K (J.imp (λz=>(v a x t L).1 z) λz=>?_) (O.imp (λz=>(v b r t K).1 z) λz=>?_)
    .rw[l a (C.ql a x)]at z;exact z
    .rw[l b (C.ql b r)]at z;exact z
 .rw[(g w).2.2.2.1]at S;rw[(g w).2.2.1]at H;rw[A]at U;exact C.wa w U S H
 .rw[h.oh,show I.l.ou=s.l.ou by rw[p];rfl];exact C.ed j d H
def Co.gu(C:Co R σ s B)(a:σ.tk t=ld)(h:Gu t s I):Co R σ I B:=h (λs=>Co R σ s B) C (λ_ _ c q=>c.gq a q) (λ_ _ _ _ c q=>c.gc q)
def Flat.tv(C:Co R σ s B):Flat (tv R σ.tk):=by
 rw[bO];intro r a;unfold Go.Proofs.YtobagnjnbmgidabGreatDoor.tv at a;let⟨j,b,a⟩:=mL.1 a;rcases Tg (σ.tk j)with e|⟨q,e⟩|e|e
 .rw[e]at a;cases a
 .rw[e]at a;exact bO.1 (C.pk j q e).fl r a
 .rw[e]at a;cases a
 .rw[e]at a;cases a
def Co.flat(C:Co R σ s B)(H:tZ R):Flat (nD R σ):=(Flat.tv C).app (C.RE.app H.fl)
def Co.Gi(C:Co R σ s B)(H:tZ R)(a:∀r∈s.cx,r.wr=false/\r.row=none):Flat (dD R σ s):=Flat.app (bO.2 (r9 s λr b=>(a r b).2)) (C.flat H)
end
end Go.Proofs.YtobagnjnbmgidabGreatDoor
