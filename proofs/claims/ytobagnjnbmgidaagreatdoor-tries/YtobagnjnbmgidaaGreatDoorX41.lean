import Derived.Test.YtobagnjnbmgidaaGreatDoorX30
import Derived.Conc.AtomicLaws2
import Derived.Conc.SmallLaws
import Derived.Test.YtobagnjnbmgidaaGreatDoorM6
set_option linter.all false
set_option maxHeartbeats 4000000
set_option maxRecDepth 100000
namespace Go.Proofs.YtobagnjnbmgidaaGreatDoor
open Tryz
section
open Go.Conc Go.RowKit
def jO(wc ec:Nat):Array CommCase:=#[rcase wc (.agg #[]),rcase ec (.agg #[])]
def lZ(wc ec:Nat)(Home:Goroutine→Prop):Seat:={cases:=jO wc ec,shape:=.select,home:=Home}
def T3(wc ec:Nat)(tgt g:Goroutine):Prop:=∀kk:Nat,kk<2→∀Φ,CF prog true Φ→Φ tgt→Φ (Go.Conc.served g (commResult (jO wc ec) .select kk (.agg #[]) true))
theorem yy{wc ec:Nat}(h:wc≠ec)(Home:Goroutine→Prop):(lZ wc ec Home).Wf:=by
 refine⟨fun cc lR=>?_,fun k m c z z' h1 h2=>?_⟩
 ·simp only[lZ,jO,List.mem_toArray,List.mem_cons,List.not_mem_nil,or_false] at lR
  rcases lR with rfl|rfl
  ·exact⟨_,_,rfl⟩
  ·exact⟨_,_,rfl⟩
 ·simp only[lZ,jO] at h1 h2
  rcases k with _|_|k<;>rcases m with _|_|m<;>simp[rcase] at h1 h2<;>first|rfl|omega
theorem mQ{wc ec c:Nat}{Home:Goroutine→Prop}(h:(lZ wc ec Home).has c):c=wc∨c=ec:=by
 obtain⟨k,z,hk⟩:=h;simp only[lZ,jO] at hk;rcases k with _|_|k<;>simp[rcase] at hk<;>omega
theorem K6{K:World→Prop}{Still:Loc→Prop}{B:Nat}{Home:Goroutine→Prop}(A wc ec:Nat)(h3:∀w,K w→w.cell? ⟨A,3,none⟩=some (.chan (some wc)))(h4:∀w,K w→w.cell? ⟨A,4,none⟩=some (.chan (some ec)))(s3:Still (.cell ⟨A,3,none⟩))(s4:Still (.cell ⟨A,4,none⟩))(lA:A<B)(c:Frame)(cs:List Frame)(hH:∀g,T3 wc ec (G (c.finish (.tuple #[])) cs) g→Home g)(w:World):
 ∃n,Goes prog true (RK K) (DS Still B) (fun g _=>∃g₂,AtIn prog true K Still B (lZ wc ec Home) g g₂) n (G (Frame.enter prog 63 #[.pointer (some ⟨A,0,none⟩)] .normal) (c::cs)) w:=by
 have F:=rX (P:=prog) (K:=K) (Still:=Still) (B:=B) true (lZ wc ec Home) w;have e3:EvC Still B ⟨.cell ⟨A,3,none⟩,false,false⟩:=⟨_,rfl,s3,lA⟩;have e4:EvC Still B ⟨.cell ⟨A,4,none⟩,false,false⟩:=⟨_,rfl,s4,lA⟩;rw[enter_at _ func63 rfl];simp only[ntmps63,mV,Nat.reduceAdd,Nat.reduceSub];refine F.sq ?_;refine F.bh ?_;iterate 3 (refine F.ak ?_;try walk_nrm)
 apply F.op rfl rfl (by decide)
 ·intro w hw e he
  have jm:=h3 w hw;simp[go_sem,jm] at he;subst he;exact e3
 ·intro w hw
  have jm:=h3 w hw;go_simp
  first|exact⟨rfl,rfl⟩|exact rfl
 try walk_nrm
 refine F.Ey ?_;iterate 3 (refine F.ak ?_;try walk_nrm)
 apply F.op rfl rfl (by decide)
 ·intro w hw e he
  have jm:=h4 w hw;simp[go_sem,jm] at he;subst he;exact e4
 ·intro w hw
  have jm:=h4 w hw;go_simp
  first|exact⟨rfl,rfl⟩|exact rfl
 try walk_nrm
 refine F.cI ?_;refine⟨0,fun w₁ r=>⟨_,rfl,rfl,rfl,rfl,hH _ ?_,#[],by simp,fun w hw=>?_⟩⟩
 ·clear F
  intro kk cB Φ F ht;rw[served_fr,Frame.finish_at];have Eh:goInt 0=.int .i64 0:=rfl;have Of:goInt 1=.int .i64 1:=rfl;rcases kk with _|_|kk
  ·simp only[commResult,jO,rcase]
   try walk_nrm
   simp[Eh];iterate 3 (refine F.ak ?_;try walk_nrm)
   refine F.re ?_;refine F.bl ?_;refine F.ct rfl ?_;refine F.sk ?_;refine F.ib ?_;refine F.ctl (fun _=>stepG_end) ?_;refine F.aF rfl rfl func63 (resultsC_none (by rfl) _) ?_;exact ht
  ·simp only[commResult,jO,rcase]
   try walk_nrm
   simp[Of];iterate 3 (refine F.ak ?_;try walk_nrm)
   refine F.re ?_;refine F.bl ?_;refine F.cf rfl ?_;refine F.ct rfl ?_;refine F.sk ?_;refine F.ib ?_;refine F.ctl (fun _=>stepG_end) ?_;refine F.aF rfl rfl func63 (resultsC_none (by rfl) _) ?_;exact ht
  ·omega
 ·rw[stepG_comm (cases:=jO wc ec) (blocking:=true) (shape:=.select) (w':=w) rfl rfl (by decide) (by simp[go_sem,execOp,rcase,jO,Act.eval])]
  rw[listed_nil (by simp[go_sem,execOp,Act.eval])]
  rfl
end
section
open Go.Conc Go.RowKit
theorem K9:∃t,prog.underlying 182=some (.pointer t)∧(prog.info? t).map (fun i=>decide (i.size=0))=some false:=⟨match prog.underlying 182 with|some (.pointer t)=>t|_=>0,by kernel_rfl,by kernel_rfl⟩
theorem Lb:∃t,prog.underlying 174=some (.pointer t)∧(prog.info? t).map (fun i=>decide (i.size=0))=some false:=⟨match prog.underlying 174 with|some (.pointer t)=>t|_=>0,by kernel_rfl,by kernel_rfl⟩
theorem La:prog.underlying 178=some .unsafePointer:=by kernel_rfl
theorem Ca{t:TypeId}(h:(prog.info? t).map (fun i=>decide (i.size=0))=some false):∃i,prog.info? t=some i∧i.size≠0:=by
 cases hi:prog.info? t with
 |none=>rw[hi] at h;cases h
 |some i=>rw[hi] at h;exact⟨i,rfl,by simpa using h⟩
theorem HV{s t:TypeId}{p:Addr}{v:Value}{w:World}(h1:prog.underlying s=some (.pointer t))(h2:(prog.info? t).map (fun i=>decide (i.size=0))=some false)(hc:w.cell? p=some v):(convert s 178 (.pointer (some p))).run prog w=.ok (.pointer (some p)) w:=by
 obtain⟨e,n,hs,hl,_⟩:=World.shape?_of_cell? hc;obtain⟨i,hi,hz⟩:=Ca h2;have:=Nat.not_le.2 hl;simp[convert,Conv.unsafePointer,Conv.seenAt,viewAt,cellsIn,sizeOf,typeInfo,run_underlying h1,run_underlying La,hi,hz,hs,this,Result.andThen]
theorem Mm{s t:TypeId}{p:Addr}{v:Value}{w:World}(h1:prog.underlying s=some (.pointer t))(h2:(prog.info? t).map (fun i=>decide (i.size=0))=some false)(hc:w.cell? p=some v):(convert s 178 (.pointer (some p))).events prog w #[]=#[]:=by
 obtain⟨e,n,hs,hl,_⟩:=World.shape?_of_cell? hc;obtain⟨i,hi,hz⟩:=Ca h2;have:=Nat.not_le.2 hl;simp[convert,Conv.unsafePointer,Conv.seenAt,viewAt,cellsIn,sizeOf,typeInfo,run_underlying h1,run_underlying La,hi,hz,hs,this,Result.evThen]
theorem Mn{p:Addr}{v:Value}{w:World}(hc:w.cell? p=some v):(convert 182 178 (.pointer (some p))).run prog w=.ok (.pointer (some p)) w:=by
 obtain⟨t,h1,h2⟩:=K9;exact HV h1 h2 hc
theorem HW{p:Addr}{v:Value}{w:World}(hc:w.cell? p=some v):(convert 182 178 (.pointer (some p))).events prog w #[]=#[]:=by
 obtain⟨t,h1,h2⟩:=K9;exact Mm h1 h2 hc
theorem HX{p:Addr}{v:Value}{w:World}(hc:w.cell? p=some v):(convert 174 178 (.pointer (some p))).run prog w=.ok (.pointer (some p)) w:=by
 obtain⟨t,h1,h2⟩:=Lb;exact HV h1 h2 hc
theorem Bi{p:Addr}{v:Value}{w:World}(hc:w.cell? p=some v):(convert 174 178 (.pointer (some p))).events prog w #[]=#[]:=by
 obtain⟨t,h1,h2⟩:=Lb;exact Mm h1 h2 hc
theorem Q0:bits .and .u64 4294967296 2147483648=0:=by decide
theorem yO:bits .and .u64 4294967296 2147483647=0:=by decide
theorem kN:bits .and .u64 0 2147483648=0:=by decide
theorem gW:bits .and .u64 0 2147483647=0:=by decide
theorem uL:bits .and .u64 1 2147483648=0:=by decide
theorem rI:bits .and .u64 1 2147483647=1:=by decide
theorem wH:bits .and .u64 4294967297 2147483648=0:=by decide
theorem dX:bits .and .u64 4294967297 2147483647=1:=by decide
end
section
open Go.Conc
open Go.ConcN (sumTo upd sumTo_upd upd_ne upd_same)
theorem I8{p:Nat→Nat→Prop}(hm:∀m n n',n≤n'→p m n→p m n'):∀(k:Nat),(∀m,m<k→∃n,p m n)→∃N,∀m,m<k→p m N
 |0,_=>⟨0,fun m h=>absurd h (by omega)⟩
 |k+1,h=>by
  obtain⟨N,hN⟩:=I8 hm k fun m hk=>h m (by omega)
  obtain⟨n,hn⟩:=h k (by omega);refine⟨N+n,fun m hk=>?_⟩
  by_cases e:m=k
  ·subst e;exact hm _ _ _ (by omega) hn
  ·exact hm _ _ _ (by omega) (hN m (by omega))
theorem gq{P:Program}:∀{n d:Nat}{g:Goroutine},QuitsD P n d g→∀m,n≤m→QuitsD P m d g
 |0,d,g,h,m,hm=>by cases m with|zero=>exact h|succ m=>exact .inl h
 |n+1,d,g,h,m,hm=>by
  obtain⟨m,rfl⟩:∃j,m=j+1:=⟨m-1,by omega⟩;rcases h with h|⟨hs,g',es,h1,h2,h3⟩
  ·exact .inl h
  ·exact .inr ⟨hs,g',es,h1,h2,gq h3 m (by omega)⟩
section
variable{P:Program}{Post:Value→World→Prop}{K Q:World→Prop}{Shun:Loc→Prop}{St:Nat→Loc→Prop}{B:Nat}{Inb:Nat→Option Seat}{Gp:rR}{Anchor:Goroutine→Prop}{h j c k kk L nb n dl t:Nat}{w w':World}{a a' g g':Goroutine}{es:Array Event}
theorem gG.at'(hQ:∀w d,Q w→Q (w.at d))(d:Nat)(H:gG P Post K Q Shun St Inb Gp L nb h n dl g w):gG P Post K Q Shun St Inb Gp L nb h n dl g (w.at d):=
 fun d' gs T q sl ds sg h1 h2 h3 h4 h5=>H d' gs T q sl ds sg h1 h2 h3 h4 (hQ (w.at d) w.drawn h5)
theorem gG.mark(G:GK K Shun Gp)(gS:nb≤9)(hQ:∀w d,Q w→Q (w.at d))(hs:a.status=.running)(bN:∀w,stepG P (h==0) a w=.go a' w es)(fu:∀e∈es,xN Shun (oI St (fun g=>(Inb g).isSome)) w.heap.size h e)(hn:gG P Post K Q Shun St Inb Gp L nb h n (deafBehind dl es) a' w):gG P Post K Q Shun St Inb Gp L nb h n dl a w:=
 gG.go G gS hs hQ fun d hK hq=>⟨a',w.at d,es,fun m=>bN _,hK,hq,fun _ _ _ _=>rfl,Nat.le_refl _,fu,hn.at' hQ d⟩
theorem tZ:∀(n m t:Nat)(g:Goroutine),n≤m→DP P K Gp n t g→DP P K Gp m t g
 |0,_,_,_,_,h=>h.elim
 |n+1,0,_,_,h,_=>absurd h (by omega)
 |n+1,m+1,t,g,hm,x=>by
  rcases x with ⟨a,g',b,c⟩|⟨a,b,g',c,d⟩|⟨a,b,g',c,d⟩|⟨a,b,e,g',c,d⟩|⟨a,b,g',c,d⟩|⟨a,b,g',c,d⟩|⟨a,b,c,g',d,e,f⟩
  ·exact .inl ⟨a,g',b,tZ n m _ _ (by omega) c⟩
  ·exact .inr (.inl ⟨a,b,g',c,tZ n m _ _ (by omega) d⟩)
  ·exact .inr (.inr (.inl ⟨a,b,g',c,tZ n m _ _ (by omega) d⟩))
  ·exact .inr (.inr (.inr (.inl ⟨a,b,fun m' x h1 h2 h3=>by obtain⟨g2,y1,y2⟩:=e m' x h1 h2 h3;exact⟨g2,y1,gq y2 m (by omega)⟩,g',c,tZ n m _ _ (by omega) d⟩)))
  ·exact .inr (.inr (.inr (.inr (.inl ⟨a,b,g',c,tZ n m _ _ (by omega) d⟩))))
  ·exact .inr (.inr (.inr (.inr (.inr (.inl ⟨a,b,g',c,tZ n m _ _ (by omega) d⟩)))))
  ·exact .inr (.inr (.inr (.inr (.inr (.inr ⟨a,b,c,g',d,e,gq f m (by omega)⟩)))))
theorem td(t:Nat):QF P false K (fun _=>False) (fun g=>∃n,DP P K Gp n t g):=
 ⟨fun g g' hs h ⟨n,hn⟩=>⟨n+1,.inl ⟨hs,g',fun w hw=>by obtain⟨es,e1,e2⟩:=h w hw;rw[e1,Array.eq_empty_iff_forall_not_mem.2 fun e he=>e2 e he],hn⟩⟩⟩
theorem OS(hs:g.status=.running)(h:∀w,K w→stepG P false g w=.go g' w #[vr (.releaseMerge Gp.st)])(hn:∃n,DP P K Gp n 1 g'):∃n,DP P K Gp n 0 g:=by obtain⟨n,x⟩:=hn;exact⟨n+1,.inr (.inl ⟨rfl,hs,g',h,x⟩)⟩
theorem Be(hs:g.status=.running)(h:∀w,K w→stepG P false g w=.go g' w #[vr .disable])(hn:∃n,DP P K Gp n 2 g'):∃n,DP P K Gp n 1 g:=by obtain⟨n,x⟩:=hn;exact⟨n+1,.inr (.inr (.inl ⟨rfl,hs,g',h,x⟩))⟩
theorem OT(hs:g.status=.running)(h:∀m x:Nat,m<9→x<2→(x=0∨0<m)→∃g',(∀w,K w→jv .u64 Gp.st w (gv (m+1) x)→stepG P false g w=.go g' (w.setCell Gp.st (.int .u64 (gv m x))) #[uJ Gp.st,ES Gp.st])∧∃n,QuitsD P n 1 g')(h1:∃g',(∀w,K w→jv .u64 Gp.st w (gv 1 1)→stepG P false g w=.go g' (w.setCell Gp.st (.int .u64 (gv 0 1))) #[uJ Gp.st,ES Gp.st])∧∃n,DP P K Gp n 3 g'):∃n,DP P K Gp n 2 g:=by
 obtain⟨N,hN⟩:=I8 (p:=fun m n=>∀x:Nat,x<2→(x=0∨0<m)→∃g',(∀w,K w→jv .u64 Gp.st w (gv (m+1) x)→stepG P false g w=.go g' (w.setCell Gp.st (.int .u64 (gv m x))) #[uJ Gp.st,ES Gp.st])∧QuitsD P n 1 g') (fun m n n' hn hp x h1 h2=>by
  obtain⟨g',y1,y2⟩:=hp x h1 h2;exact⟨g',y1,gq y2 n' hn⟩) 9 fun m hm=>by
  obtain⟨N,hN⟩:=I8 (p:=fun x n=>(x=0∨0<m)→∃g',(∀w,K w→jv .u64 Gp.st w (gv (m+1) x)→stepG P false g w=.go g' (w.setCell Gp.st (.int .u64 (gv m x))) #[uJ Gp.st,ES Gp.st])∧QuitsD P n 1 g') (fun x n n' hn hp h2=>by
   obtain⟨g',y1,y2⟩:=hp h2;exact⟨g',y1,gq y2 n' hn⟩) 2 fun x hx=>by
   by_cases hc:x=0∨0<m
   ·obtain⟨g',y1,n,y2⟩:=h m x hm hx hc
    exact⟨n,fun _=>⟨g',y1,y2⟩⟩
   ·exact⟨0,fun z=>absurd z hc⟩
  exact⟨N,fun x hx=>hN x hx⟩
 obtain⟨g',y1,n,y2⟩:=h1;refine⟨N+n+1,.inr (.inr (.inr (.inl ⟨rfl,hs,fun m x a1 a2 a3=>?_,g',y1,tZ n _ _ _ (by omega) y2⟩)))⟩;obtain⟨g2,z1,z2⟩:=hN m a1 x a2 a3;exact⟨g2,z1,gq z2 _ (by omega)⟩
theorem KB(hs:g.status=.running)(h:∀w,K w→jv .u64 Gp.st w (gv 0 1)→stepG P false g w=.go g' w #[uJ Gp.st])(hn:∃n,DP P K Gp n 4 g'):∃n,DP P K Gp n 3 g:=by obtain⟨n,x⟩:=hn;exact⟨n+1,.inr (.inr (.inr (.inr (.inl ⟨rfl,hs,g',h,x⟩))))⟩
theorem HS(hs:g.status=.running)(h:∀w,K w→jv .u64 Gp.st w (gv 0 1)→stepG P false g w=.go g' (w.setCell Gp.st (.int .u64 (gv 0 0))) #[ES Gp.st])(hn:∃n,DP P K Gp n 5 g'):∃n,DP P K Gp n 4 g:=by obtain⟨n,x⟩:=hn;exact⟨n+1,.inr (.inr (.inr (.inr (.inr (.inl ⟨rfl,hs,g',h,x⟩)))))⟩
theorem EF(hs:g.status=.running)(hw:mayWake P g=true)(fJ:g'.status=.running)(h:∀w,K w→jv .u32 Gp.se w 0→stepG P false g w=.go g' (w.setCell Gp.se (.int .u32 1)) (semEvents Gp.se))(hn:∃n,QuitsD P n 1 g'):∃n,DP P K Gp n 5 g:=by obtain⟨n,x⟩:=hn;exact⟨n+1,.inr (.inr (.inr (.inr (.inr (.inr ⟨rfl,hs,hw,g',fJ,h,x⟩)))))⟩
theorem jc(k t:Nat):QF P true K (fun e=>xN Shun (fun _=>False) B 0 e∧e.loc≠.mark .disable∧e.loc≠.mark .enable) (fun g=>∃n,WS P K Shun B Gp Anchor k n t g):=
 ⟨fun g g' hs h ⟨n,hn⟩=>⟨n+1,WS.one (.inl ⟨hs,g',h,hn⟩)⟩⟩
theorem zS(hs:g.status=.running)(h:∀w,K w→stepG P true g w=.go g' w #[vr .disable])(hn:∃n,WS P K Shun B Gp Anchor k n 1 g'):∃n,WS P K Shun B Gp Anchor k n 0 g:=by obtain⟨n,x⟩:=hn;exact⟨n+1,WS.one (.inr (.inl ⟨rfl,hs,g',h,x⟩))⟩
theorem I0(hs:g.status=.running)(h:∀m,0<m→m≤k→∃g',(∀w,K w→jv .u64 Gp.st w (gv m 0)→stepG P true g w=.go g' w #[uJ Gp.st])∧∃n,WS P K Shun B Gp Anchor k n (100+m) g')(h0:∃g',(∀w,K w→jv .u64 Gp.st w (gv 0 0)→stepG P true g w=.go g' w #[uJ Gp.st])∧∃n,WS P K Shun B Gp Anchor k n 6 g'):∃n,WS P K Shun B Gp Anchor k n 1 g:=by
 obtain⟨N,hN⟩:=I8 (p:=fun m n=>0<m→∃g',(∀w,K w→jv .u64 Gp.st w (gv m 0)→stepG P true g w=.go g' w #[uJ Gp.st])∧WS P K Shun B Gp Anchor k n (100+m) g') (fun m n n' hn hp h0=>by
  obtain⟨g',y1,y2⟩:=hp h0;exact⟨g',y1,y2.up n' hn⟩) (k+1) fun m hm=>by
  by_cases hc:0<m
  ·obtain⟨g',y1,n,y2⟩:=h m hc (by omega)
   exact⟨n,fun _=>⟨g',y1,y2⟩⟩
  ·exact⟨0,fun z=>absurd z hc⟩
 obtain⟨g0,y1,n,y2⟩:=h0;refine⟨N+n+1,WS.one (.inr (.inr (.inl ⟨rfl,hs,fun m a1 a2=>?_,g0,y1,y2.up _ (by omega)⟩)))⟩;obtain⟨g2,z1,z2⟩:=hN m (by omega) a1;exact⟨g2,z1,z2.up _ (by omega)⟩
theorem Fz(hs:g.status=.running)(h:∀w,K w→jv .u64 Gp.st w (gv 0 0)→stepG P true g w=.go g' w #[uJ Gp.st])(hn:∃n,WS P K Shun B Gp Anchor k n 6 g'):∃n,WS P K Shun B Gp Anchor k n 5 g:=by obtain⟨n,x⟩:=hn;exact⟨n+1,WS.one (.inr (.inr (.inr (.inl ⟨rfl,hs,g',h,x⟩))))⟩
theorem IZ{m:Nat}(m0:0<m)(mk:m≤k)(hs:g.status=.running)(h1:∀w,K w→jv .u64 Gp.st w (gv m 0)→stepG P true g w=.go g' (w.setCell Gp.st (.int .u64 (gv m 1))) #[uJ Gp.st,ES Gp.st])(cP:∃n,WS P K Shun B Gp Anchor k n 3 g')(hf:∀m',m'<m→∃g',(∀w,K w→jv .u64 Gp.st w (gv m' 0)→stepG P true g w=.go g' w #[uJ Gp.st])∧∃k' n,k=k'+1∧WS P K Shun B Gp Anchor k' n 1 g'):∃n,WS P K Shun B Gp Anchor k n (100+m) g:=by
 obtain⟨n,x⟩:=cP;exact⟨n+1,WS.one (.inr (.inr (.inr (.inr (.inl ⟨m,m0,mk,rfl,hs,⟨g',h1,x⟩,hf⟩)))))⟩
theorem Fy(hs:g.status=.running)(h:∀w,K w→stepG P true g w=.go g' w #[vr (.write Gp.se)])(hn:∃n,WS P K Shun B Gp Anchor k n 4 g'):∃n,WS P K Shun B Gp Anchor k n 3 g:=by obtain⟨n,x⟩:=hn;exact⟨n+1,WS.one (.inr (.inr (.inr (.inr (.inr (.inl ⟨rfl,hs,g',h,x⟩))))))⟩
theorem MN(hs:g.status=.running)(ho:g.offers=none)(h1:∀w,K w→jv .u32 Gp.se w 1→stepG P true g w=.go g' (w.setCell Gp.se (.int .u32 0)) (semEvents Gp.se))(h0:∀w,K w→jv .u32 Gp.se w 0→stepG P true g w=.go {g with status:=.blocked} w #[])(hn:∃n,WS P K Shun B Gp Anchor k n 5 g'):∃n,WS P K Shun B Gp Anchor k n 4 g:=by
 obtain⟨n,x⟩:=hn;exact⟨n+1,WS.one (.inr (.inr (.inr (.inr (.inr (.inr (.inl ⟨rfl,hs,ho,g',h1,h0,x⟩)))))))⟩
theorem va(hs:g.status=.running)(h:∀w,K w→stepG P true g w=.go g' w #[vr .enable])(hn:∃n,WS P K Shun B Gp Anchor k n 7 g'):∃n,WS P K Shun B Gp Anchor k n 6 g:=by obtain⟨n,x⟩:=hn;exact⟨n+1,WS.one (.inr (.inr (.inr (.inr (.inr (.inr (.inr (.inl ⟨rfl,hs,g',h,x⟩))))))))⟩
theorem sJ(hs:g.status=.running)(h:∀w,K w→stepG P true g w=.go g' w #[vr (.acquire Gp.st)])(hn:∃n,WS P K Shun B Gp Anchor k n 8 g'):∃n,WS P K Shun B Gp Anchor k n 7 g:=by obtain⟨n,x⟩:=hn;exact⟨n+1,WS.one (.inr (.inr (.inr (.inr (.inr (.inr (.inr (.inr ⟨rfl,hs,g',h,x⟩))))))))⟩
end
theorem OC:∀m x:Nat,m<9→x<2→IntKind.u64.wrap (gv (m+1) x+18446744069414584320)=gv m x:=by
 have:∀m:Fin 9,∀x:Fin 2,IntKind.u64.wrap (gv (m.1+1) x.1+18446744069414584320)=gv m.1 x.1:=by decide
 exact fun m x h1 h2=>this ⟨m,h1⟩ ⟨x,h2⟩
theorem OB:∀m:Nat,m<9→IntKind.u64.wrap (gv m 0+4294967296)=gv (m+1) 0:=by
 have:∀m:Fin 9,IntKind.u64.wrap (gv m.1 0+4294967296)=gv (m.1+1) 0:=by decide
 exact fun m h1=>this ⟨m,h1⟩
theorem OA:∀m:Nat,m<10→IntKind.u64.wrap (gv m 0+1)=gv m 1:=by
 have:∀m:Fin 10,IntKind.u64.wrap (gv m.1 0+1)=gv m.1 1:=by decide
 exact fun m h1=>this ⟨m,h1⟩
theorem xw:∀m x:Nat,m<10→x<2→bits .and .u64 (gv m x) 2147483648=0∧bits .and .u64 (gv m x) 2147483647=x:=by
 have:∀m:Fin 10,∀x:Fin 2,bits .and .u64 (gv m.1 x.1) 2147483648=0∧bits .and .u64 (gv m.1 x.1) 2147483647=x.1:=by decide
 exact fun m x h1 h2=>this ⟨m,h1⟩ ⟨x,h2⟩
theorem HC:∀m x:Nat,m<10→x<2→IntKind.i32.wrap (gv m x / 4294967296)=(m:Int):=by
 have:∀m:Fin 10,∀x:Fin 2,IntKind.i32.wrap (gv m.1 x.1 / 4294967296)=(m.1:Int):=by decide
 exact fun m x h1 h2=>this ⟨m,h1⟩ ⟨x,h2⟩
end
end Go.Proofs.YtobagnjnbmgidaaGreatDoor
