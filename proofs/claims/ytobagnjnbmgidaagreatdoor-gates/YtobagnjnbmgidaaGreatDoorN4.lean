import Derived.Test.YtobagnjnbmgidaaGreatDoorN1
set_option linter.all false
set_option maxHeartbeats 0
set_option maxRecDepth 100000
namespace Go.Proofs.YtobagnjnbmgidaaGreatDoor
open Go.Conc Go.RowKit Tryz
variable{l t:Int}{E L N cap off p q:Nat}{w:aj}{f v:ay}{es:jg}{R:fW}
variable{main:Bool}{Ok:dw}
theorem me(w:aj)(hl:l=L)(d:L<=q)(i:q<=cap):(Instr.sliceAt 100 (.slice (some ⟨E,off,none⟩) q cap) (some (.int .i64 l)) none none).run prog w=.ok (.slice (some (if cap=L then⟨E,off,none⟩else⟨E,off+L*2,none⟩)) (q-L) (cap-L)) w/\
 (Instr.sliceAt 100 (.slice (some ⟨E,off,none⟩) q cap) (some (.int .i64 l)) none none).events prog w #[]=#[]:=by
 obtain⟨inf,z,b,h,a,g,e⟩:=kH;subst hl;have c:(L:Int)<=(q:Int):=by omega
 constructor
 .simp[Instr.sliceAt,run_underlying cQ,Instr.slice,Instr.sliceBounds,Instr.sliceBound,asInt,asIntOf,sizeOf,typeInfo,b,a,c,d,dJ]
  split<;>rfl
 .simp[Instr.sliceAt,run_underlying cQ,Instr.slice,Instr.sliceBounds,Instr.sliceBound,asInt,asIntOf,sizeOf,typeInfo,b,a,c,d]
theorem Lj(w:aj){b:Addr}(hl:l=L)(e:L<=cap):(Instr.sliceAt 100 (.slice (some b) q cap) none (some (.int .i64 l)) none).run prog w=.ok (.slice (some b) L cap) w/\
 (Instr.sliceAt 100 (.slice (some b) q cap) none (some (.int .i64 l)) none).events prog w #[]=#[]:=by
 obtain⟨inf,z,c,j,a,i,h⟩:=kH;subst hl;have d:(L:Int)<=(cap:Int):=by omega
 have g:b.add 0=b:=by cases b with|mk x y s=>cases s<;>simp[Addr.add]
 constructor
 .simp[Instr.sliceAt,run_underlying cQ,Instr.slice,Instr.sliceBounds,Instr.sliceBound,asInt,asIntOf,sizeOf,typeInfo,c,a,d,e,g]
 .simp[Instr.sliceAt,run_underlying cQ,Instr.slice,Instr.sliceBounds,Instr.sliceBound,asInt,asIntOf,sizeOf,typeInfo,c,a,d,e]
def qb(R:fW)(p:Nat)(vs:iG):Array Value:=(R.toList.take p++vs++R.toList.drop (p+vs.length)).toArray
theorem jK{vs:iG}(h:p+vs.length<=R.size):(qb R p vs).size=R.size:=qa R p vs h
theorem BZ{R1 R2:fW}{o i:Nat}{xs c:iG}(s:xs.length=2*q)(x:i<=q)(m:c.length=2)(g:o+2*(q+1)<=R.size)(r:∀(j:Nat)(u:ay),j<2*i->xs[j]? =some u->R[o+j]? =some u)(h:(R1=qb R (o+i*2) c/\R2=qb R1 (o+(i+1)*2) (xs.drop (2*i)))\/(R1=qb R (o+(i+1)*2) (xs.drop (2*i))/\R2=qb R1 (o+i*2) c)):
 ∀(j:Nat)(u:ay),(xs.take (2*i)++(c++xs.drop (2*i)))[j]? =some u->R2[o+j]? =some u:=by
 have d:(xs.drop (2*i)).length=2*q-2*i:=by simp;omega
 have k:(xs.take (2*i)).length=2*i:=by simp;omega
 intro j u b
 have key:R2[o+j]? =if j<2*i then R[o+j]? else if j<2*i+2 then c[j-2*i]? else if j<2*q+2 then(xs.drop (2*i))[j-(2*i+2)]? else R[o+j]? :=by
  rcases h with ⟨rfl,rfl⟩|⟨rfl,rfl⟩
  .have e:(qb R (o+i*2) c).size=R.size:=jK (by omega)
   rw[qb,eu _ _ _ (by rw[e,d];omega),d]
   by_cases a:j<2*i
   .rw[ah (by omega),ah a,qb,eu _ _ _ (by omega),ah (by omega)]
   .rw[af a]
    by_cases c2:j<2*i+2
    .rw[ah (by omega),ah c2,qb,eu _ _ _ (by omega),af (by omega),ah (by omega)]
     congr 1;omega
    .rw[af (by omega),af c2]
     by_cases c3:j<2*q+2
     .rw[ah (by omega),ah c3]
      congr 1;omega
     .rw[af (by omega),af c3,qb,eu _ _ _ (by omega),af (by omega),af (by omega)]
  .have e:(qb R (o+(i+1)*2) (xs.drop (2*i))).size=R.size:=jK (by rw[d];omega)
   rw[qb,eu _ _ _ (by rw[e];omega)]
   by_cases a:j<2*i
   .rw[ah (by omega),ah a,qb,eu _ _ _ (by rw[d];omega),ah (by omega)]
   .rw[af (by omega),af a]
    by_cases c2:j<2*i+2
    .rw[ah (by omega),ah c2]
     congr 1;omega
    .rw[af (by omega),af c2,qb,eu _ _ _ (by rw[d];omega),af (by omega),d]
     by_cases c3:j<2*q+2
     .rw[ah (by omega),ah c3]
      congr 1;omega
     .rw[af (by omega),af c3]
 rw[key]
 by_cases a:j<2*i
 .rw[ah a]
  rw[oZ (by omega),EN a]at b;exact r j u a b
 .rw[af a]
  rw[rH (by omega),k]at b
  by_cases c2:j<2*i+2
  .rw[ah c2]
   rw[oZ (by omega)]at b;exact b
  .rw[af c2]
   rw[rH (by omega),m]at b;have n:=(nS.1 b).1;rw[ah (by omega),<-b]
   congr 1<;>omega
theorem yK(es:jg)(i:Nat)(t:Int)(f:ay):flat (es.take i++(t,f)::es.drop i)=(flat es).take (2*i)++([.int .i64 t,f]++(flat es).drop (2*i)):=by
 rw[lZ,uX,show flat ((t,f)::es.drop i)=.int .i64 t::f::flat (es.drop i)from rfl,uY];rfl
theorem JF(h:∀e∈es,e.2.oneCell'=true)(c:f.oneCell'=true)(i:Nat)(t:Int):∀e∈es.take i++(t,f)::es.drop i,e.2.oneCell'=true:=λe b=>by
 rcases dZ.1 b with a|a
 .exact h e (CY a)
 .rcases ak.1 a with rfl|a
  .exact c
  .exact h e (CX a)
theorem qU(es:jg)(i:Nat)(t:Int)(f:ay)(h:i<=es.length):(es.take i++(t,f)::es.drop i).length=es.length+1:=by simp;omega
theorem Kp.setRow(w:aj)(E:Nat)(cs:fW):Kp [E] w (w.setRow E cs):=by
 have:=Kp.grown (v:=.slice (some ⟨E,0,none⟩) 0 0) (w:=w) (w':=w.setRow E cs) ⟨rfl,rfl,rfl,by simp,λk _ hk=>setRow_other w E k _ (λe=>hk (by simp[Value.ownBlock,e]))⟩
 simpa [bU,Value.ownBlock]using this
theorem nX{x:Int}(b:0<=x)(a:x<100000):IntKind.i64.wrap x=x:=by rw[IntKind.wrap_i64];omega
theorem sw{nb:Nat}{a:TypeId}(h:w.heap[nb]? =some (.cells #[.int .i64 t,f] a (0,0))):∀j u,([.int .i64 t,f]:iG)[j]? =some u->w.cell? ((⟨nb,0,none⟩:Addr).add j)=some u:=λj u b=>by
 rw[dJ,oJ h,bD,Da];exact b
theorem DC(N nb i:Nat)(t:Int)(f:ay)(tb:TypeId)(w0:aj)(es:jg)(Oh:es.length<900)(hi:i<=es.length)(hN:N<=w0.heap.size){cur:fW}(r:∀e∈es,e.2.oneCell'=true)(hle:es.length<=cap)(hE:N<=E)(H:w0.heap[E]? =some (.cells cur 128 (0,0)))(wm:off+2*cap<=cur.size)(Ca:∀(j:Nat)(u:ay),(flat es)[j]? =some u->cur[off+j]? =some u)(Z:w0.heap[nb]? =some (.cells #[.int .i64 t,f] tb (0,0)))(hf:f.oneCell'=true)(ny:nb≠E)(P:∀(ad:Addr)(wr:Bool),ad.block=E->Ok ad wr)(T:∀ad:Addr,ad.block=nb->Ok ad false)(U:∀(ad:Addr)(wr:Bool),w0.heap.size<=ad.block->Ok ad wr):
 eC prog main (DX Ok) 60 #[.slice (some ⟨E,off,none⟩) es.length cap,.int .i64 i,.slice (some ⟨nb,0,none⟩) 1 1] w0 λv' w'=>eX N w' v' (es.take i++(t,f)::es.drop i)/\Kp [E] w0 w'/\∀g∈bU v',g=E\/w0.heap.size<=g:=by
 intro Ψ F c cs hc;have Tw:E<w0.heap.size:=(cH.1 H).1;have LM:nb<w0.heap.size:=(cH.1 Z).1;have Tv:eX N w0 (.slice (some ⟨E,off,none⟩) es.length cap) es:=⟨r,.inr ⟨E,off,cap,cur,rfl,hle,hE,H,wm,Ca⟩⟩;have Er:=gV es;have ZV:=sw Z;have h1c:∀u∈([.int .i64 t,f]:iG),u.oneCell'=true:=by intro u I;simp at I;rcases I with rfl|rfl;rfl;exact hf
 have On:=yJ es r;generalize hq:es.length=q at Oh hi hle Er Tv hc;rw[enter_at _ func60 rfl];simp only[ntmps60,oP,Nat.reduceAdd,Nat.reduceSub];have q1:(q:Int)+1<=901:=by omega
 have wq:IntKind.i64.wrap ((q:Int)+1)=(q:Int)+1:=nX (by omega) (by omega);have wi:IntKind.i64.wrap ((i:Int)+1)=(i:Int)+1:=nX (by omega) (by omega);have wn:IntKind.i64.wrap ((q:Int)+1-(i:Int))=((q+1-i:Nat):Int):=by rw[nX (by omega) (by omega)];omega
 have e1:∀w,(Instr.sliceAt 100 (.slice (some ⟨E,off,none⟩) q cap) (some (.int .i64 i)) none none).events prog w #[]=#[]:=λw=>(me w rfl hi hle).2
 by_cases uS:i=q
 .have c1:((i:Int)==(q:Int))=true:=by simp;omega
  have aaq:i<=q/\q<=i:=⟨hi,rG uS.symm⟩;clear uS;have ht:es.take i++(t,f)::es.drop i=es++[(t,f)]:=by rw[List.take_of_length_le (by omega),List.drop_of_length_le (by omega)]
  refine F.cw ?_;refine F.aF ?_;try walk_nrm
  refine F.dh ?_;iterate 3 (refine F.oq rfl rfl rfl (λ_=>by first|(simp[go_sem];done)|simp[go_sem,Instr.makeInterface,Instr.makeFunc, *]) λd K D=>?_;go_simp;refine D _ ?_;clear D K d;try walk_nrm)
  refine F.dh ?_;iterate 3 (refine F.aF ?_;try walk_nrm)
  refine F.es ?_;refine F.cw ?_;iterate 2 (refine F.aF ?_;try walk_nrm)
  refine F.re ?_;refine F.cf rfl ?_;refine F.sk ?_;refine F.cw ?_;iterate 3 (refine F.aF ?_;try walk_nrm)
  refine F.es ?_;refine F.cw ?_;iterate 3 (refine F.aF ?_;try walk_nrm)
  refine F.re ?_;refine F.ct rfl ?_;refine F.cw ?_;iterate 2 (refine F.aF ?_;try walk_nrm)
  refine F.KH rfl rfl (by decide) (.tmp 23) (.tmp 24) rfl (N:=N) (nb:=nb) (v:=.slice (some ⟨E,off,none⟩) q cap) (es:=es) (t:=t) (f:=f) (by omega) hN rfl rfl Tv (ZV 0 _ rfl) (ZV 1 _ rfl) hf (λad wr h=>P ad wr (Option.some.inj h)) T ?_;intro v' w' ho hg hb;try walk_nrm
  refine F.aF ?_;try walk_nrm
  refine F.re ?_;refine F.ctl (λ_=>stepG_ret') ?_;refine F.bJ rfl rfl func60 (resultsC_tmp (by rfl) _) ?_;refine hc _ _ ⟨by rw[ht];exact ho,?_,λg h=>?_⟩
  .have:=Kp.grown hg
   simpa [bU,Value.ownBlock]using this
  .rw[bq]at h
   rcases hb with y|y
   .exact .inl (Option.some.inj (h.symm.trans y))
   .exact .inr (rG (Option.some.inj (y.symm.trans h)))
 have c1:((i:Int)==(q:Int))=false:=by simp;omega
 have c2:(cap=i)=False:=by simp;omega
 have kU:i<q:=by omega
 have hpn:i+(q+1-i)=q+1:=by omega
 have Z1:=JF r hf i t;have ic:(i:Int)<=(cap:Int):=by omega
 have ic':i<=cap:=by omega
 have e5:∀w,(Builtin.cap_ #[100] 3 #[.slice (some ⟨E,off,none⟩) q cap]).events prog w #[]=#[]:=λw=>by simp[Builtin.cap_]
 have ti:((i:Int)+1).toNat=i+1:=by omega
 have tq:((q:Int)+1).toNat=q+1:=by omega
 have ip:(0:Int)<=(i:Int)+1:=by omega
 have qp:(0:Int)<=(q:Int)+1:=by omega
 have iq1:(i:Int)<=(q:Int):=by omega
 have iq2:(i:Int)+1<=(q:Int)+1:=by omega
 have V:((flat es).take (2*i)).length=2*i:=by simp;omega
 have Q:((flat es).drop (2*i)).length=2*(q-i):=by simp;omega
 have Si:∀j u,((flat es).drop (2*i))[j]? =some u->cur[off+i*2+j]? =some u:=λj u I=>by
  rw[EE]at I;rw[show off+i*2+j=off+(2*i+j) by omega];exact Ca _ u I
 have LX:∀u∈(flat es).drop (2*i),u.oneCell'=true:=λu I=>On u (CX I)
 refine F.cw ?_;refine F.aF ?_;try walk_nrm
 refine F.dh ?_;iterate 3 (refine F.oq rfl rfl rfl (λ_=>by first|(simp[go_sem];done)|simp[go_sem,Instr.makeInterface,Instr.makeFunc, *]) λd K D=>?_;go_simp;refine D _ ?_;clear D K d;try walk_nrm)
 refine F.dh ?_;iterate 3 (refine F.aF ?_;try walk_nrm)
 refine F.es ?_;refine F.cw ?_;iterate 2 (refine F.aF ?_;try walk_nrm)
 refine F.re ?_;refine F.cf rfl ?_;refine F.sk ?_;refine F.cw ?_;iterate 3 (refine F.aF ?_;try walk_nrm)
 refine F.es ?_;refine F.cw ?_;iterate 3 (refine F.aF ?_;try walk_nrm)
 refine F.re ?_;refine F.cf rfl ?_;refine F.sk ?_;refine F.sq ?_;refine F.cw ?_;iterate 6 (refine F.oq rfl rfl rfl (λ_=>by first|(simp[go_sem];done)|simp[go_sem,Instr.makeInterface,Instr.makeFunc, *]) λd K D=>?_;go_simp;refine D _ ?_;clear D K d;try walk_nrm)
 refine F.re ?_
 by_cases W:q+1<=cap
 .have c3:((cap:Int)<(q:Int)+1)=False:=by simp;omega
  have qc:(q:Int)+1<=(cap:Int):=by omega
  have c6:(cap=i+1)=False:=by simp;omega
  have iq3:(i:Int)<=(q:Int)+1:=by omega
  have DG:q+1-(i+1)=q-i:=by omega
  have e6:∀w,(Instr.sliceAt 100 (.slice (some ⟨E,off,none⟩) q cap) none (some (.int .i64 ((q:Int)+1))) none).events prog w #[]=#[]:=λw=>(Lj w (L:=q+1) (by omega) W).2
  have e7:∀w,(Instr.sliceAt 100 (.slice (some ⟨E,off,none⟩) (q+1) cap) (some (.int .i64 ((i:Int)+1))) none none).events prog w #[]=#[]:=λw=>(me w (L:=i+1) (by omega) (by omega) (by omega)).2
  have e8:∀w,(Instr.sliceAt 100 (.slice (some ⟨E,off,none⟩) (q+1) cap) (some (.int .i64 i)) none none).events prog w #[]=#[]:=λw=>(me w rfl (by omega) (by omega)).2
  simp only[c3,decide_false];refine F.cf rfl ?_;refine F.sk ?_;refine F.cw ?_;iterate 6 (refine F.oq rfl rfl rfl (λ_=>by first|(simp[go_sem];done)|simp[go_sem,Instr.makeInterface,Instr.makeFunc, *]) λd K D=>?_;go_simp;refine D _ ?_;clear D K d;try walk_nrm)
  refine F.es ?_;refine F.cw ?_;iterate 6 (refine F.oq rfl rfl rfl (λ_=>by first|(simp[go_sem];done)|simp[go_sem,Instr.makeInterface,Instr.makeFunc, *]) λd K D=>?_;go_simp;refine D _ ?_;clear D K d;try walk_nrm)
  refine F.apart rfl rfl (by decide) (.tmp 61) (.tmp 66) rfl (nb:=nb) (E:=E) rfl rfl Z H ny (by omega) ?_;try walk_nrm
  refine F.oq rfl rfl rfl (λ_=>by first|(simp[go_sem];done)|simp[go_sem,Instr.makeInterface,Instr.makeFunc, *]) λd K D=>?_;go_simp;refine D _ ?_;clear D K d;try walk_nrm
  refine F.re ?_;refine F.ct rfl ?_;refine F.sq ?_;refine F.yT (γ:=Unit) (n:=9) mixed [[],[],[],[1,2],[0,3],[],[],[5,6],[4,7]] rfl (by kernel_rfl) (λb g=>[(69,dD (b 0) (.slice (some ⟨E,off,none⟩) (q+1) cap) (undef)),(70,dD (b 1) (.int .i64 i) (undef)),(71,dD (b 2) (.int .i64 1) (undef)),(72,dD (b 3) (.int .i64 ((i:Int)+1)) (undef)),(73,dD (b 4) (.slice (some ⟨E,off+(i+1)*2,none⟩) (q-i) (cap-(i+1))) (undef)),(74,dD (b 5) (.slice (some ⟨E,off,none⟩) (q+1) cap) (undef)),(75,dD (b 6) (.int .i64 i) (undef)),(76,dD (b 7) (.slice (some ⟨E,off+i*2,none⟩) (q+1-i) (cap-i)) (undef)),(77,dD (b 8) (.int .i64 ((q-i:Nat):Int)) (undef))]) (λb g w=>(b 8=false->w=w0)/\(b 8=true->(w0.setRow E (qb cur (off+(i+1)*2) ((flat es).drop (2*i)))=w))) (()) (by simp only[pu,Nat.reduceAdd,Nat.reduceEqDiff,reduceIte]) (⟨λ_=>rfl,λh=>by cases h⟩) (all_cons ?_ (all_cons ?_ (all_cons ?_ (all_cons ?_ (all_cons ?_ (all_cons ?_ (all_cons ?_ (all_cons ?_ (all_cons ?_ (all_nil)))))))))) ?_
  .intro b g w C m a A rest G x
   obtain⟨s,B⟩:=C;replace a:b 0=false:=a;have gl:=dz (m 4 0 rfl) a;have dB:=dz (m 8 4 rfl) gl;have z:=(s dB).symm;subst z;simp only[gl,dB,a,pu,Nat.reduceAdd,Nat.reduceEqDiff,reduceIte];refine F.aF ?_;try walk_nrm
   have k:=x g _ ⟨λ_=>rfl,λh=>no dB h⟩;simp only[gl,dB,a,pu,Nat.reduceAdd,Nat.reduceEqDiff,reduceIte]at k;exact k
  .intro b g w C m a A rest G x
   obtain⟨s,B⟩:=C;replace a:b 1=false:=a;have jZ:=dz (m 3 1 rfl) a;have gl:=dz (m 4 3 rfl) jZ;have dB:=dz (m 8 4 rfl) gl;have z:=(s dB).symm;subst z;simp only[jZ,gl,dB,a,pu,Nat.reduceAdd,Nat.reduceEqDiff,reduceIte];refine F.aF ?_;try walk_nrm
   have k:=x g _ ⟨λ_=>rfl,λh=>no dB h⟩;simp only[jZ,gl,dB,a,pu,Nat.reduceAdd,Nat.reduceEqDiff,reduceIte]at k;exact k
  .intro b g w C m a A rest G x
   obtain⟨s,B⟩:=C;replace a:b 2=false:=a;have jZ:=dz (m 3 2 rfl) a;have gl:=dz (m 4 3 rfl) jZ;have dB:=dz (m 8 4 rfl) gl;have z:=(s dB).symm;subst z;simp only[jZ,gl,dB,a,pu,Nat.reduceAdd,Nat.reduceEqDiff,reduceIte];refine F.aF ?_;try walk_nrm
   have k:=x g _ ⟨λ_=>rfl,λh=>no dB h⟩;simp only[jZ,gl,dB,a,pu,Nat.reduceAdd,Nat.reduceEqDiff,reduceIte]at k;exact k
  .intro b g w C m a A rest G x
   obtain⟨s,B⟩:=C;replace a:b 3=false:=a;have d1:=A 1 rfl;have d2:=A 2 rfl;have gl:=dz (m 4 3 rfl) a;have dB:=dz (m 8 4 rfl) gl;have z:=(s dB).symm;subst z;simp only[d1,d2,gl,dB,a,pu,Nat.reduceAdd,Nat.reduceEqDiff,reduceIte];refine F.aF ?_;try walk_nrm
   have k:=x g _ ⟨λ_=>rfl,λh=>no dB h⟩;simp only[d1,d2,gl,dB,a,pu,Nat.reduceAdd,Nat.reduceEqDiff,reduceIte]at k;exact k
  .intro b g w C m a A rest G x
   obtain⟨s,B⟩:=C;replace a:b 4=false:=a;have d0:=A 0 rfl;have d3:=A 3 rfl;have dB:=dz (m 8 4 rfl) a;have z:=(s dB).symm;subst z;simp only[d0,d3,dB,a,pu,Nat.reduceAdd,Nat.reduceEqDiff,reduceIte];refine F.oq rfl rfl rfl (λ_=>by first|(simp[go_sem];done)|simp[go_sem,Instr.makeInterface,Instr.makeFunc, *]) λd K D=>?_;go_simp;refine D _ ?_;clear D K d;try walk_nrm
   have k:=x g _ ⟨λ_=>rfl,λh=>no dB h⟩;simp only[d0,d3,dB,a,pu,Nat.reduceAdd,Nat.reduceEqDiff,reduceIte]at k;exact k
  .intro b g w C m a A rest G x
   obtain⟨s,B⟩:=C;replace a:b 5=false:=a;have vU:=dz (m 7 5 rfl) a;have dB:=dz (m 8 7 rfl) vU;have z:=(s dB).symm;subst z;simp only[vU,dB,a,pu,Nat.reduceAdd,Nat.reduceEqDiff,reduceIte];refine F.aF ?_;try walk_nrm
   have k:=x g _ ⟨λ_=>rfl,λh=>no dB h⟩;simp only[vU,dB,a,pu,Nat.reduceAdd,Nat.reduceEqDiff,reduceIte]at k;exact k
  .intro b g w C m a A rest G x
   obtain⟨s,B⟩:=C;replace a:b 6=false:=a;have vU:=dz (m 7 6 rfl) a;have dB:=dz (m 8 7 rfl) vU;have z:=(s dB).symm;subst z;simp only[vU,dB,a,pu,Nat.reduceAdd,Nat.reduceEqDiff,reduceIte];refine F.aF ?_;try walk_nrm
   have k:=x g _ ⟨λ_=>rfl,λh=>no dB h⟩;simp only[vU,dB,a,pu,Nat.reduceAdd,Nat.reduceEqDiff,reduceIte]at k;exact k
  .intro b g w C m a A rest G x
   obtain⟨s,B⟩:=C;replace a:b 7=false:=a;have d5:=A 5 rfl;have d6:=A 6 rfl;have dB:=dz (m 8 7 rfl) a;have z:=(s dB).symm;subst z;simp only[d5,d6,dB,a,pu,Nat.reduceAdd,Nat.reduceEqDiff,reduceIte];refine F.oq rfl rfl rfl (λ_=>by first|(simp[go_sem];done)|simp[go_sem,Instr.makeInterface,Instr.makeFunc, *]) λd K D=>?_;go_simp;refine D _ ?_;clear D K d;try walk_nrm
   have k:=x g _ ⟨λ_=>rfl,λh=>no dB h⟩;simp only[d5,d6,dB,a,pu,Nat.reduceAdd,Nat.reduceEqDiff,reduceIte]at k;exact k
  .intro b g w C m a A rest G x
   obtain⟨s,B⟩:=C;replace a:b 8=false:=a;have d4:=A 4 rfl;have d7:=A 7 rfl;have z:=(s a).symm;subst z;simp only[d4,d7,a,pu,Nat.reduceAdd,Nat.reduceEqDiff,reduceIte];refine F.CC rfl rfl (by decide) (.tmp 73) (.tmp 76) rfl (E:=E) (p:=off+(i+1)*2) (n:=q-i) (vs:=(flat es).drop (2*i)) (bb:=⟨E,off+i*2,none⟩) rfl rfl H (Nat.min_eq_right (by omega)).symm Q (by rw[Q];omega) (oK H Si) LX P (λad h=>P ad false h) Tw ?_;intro w3 S;try walk_nrm
   have k:=x g _ ⟨λh=>by simp[tick]at h,λ_=>S⟩;simp only[d4,d7,a,pu,Nat.reduceAdd,Nat.reduceEqDiff,reduceIte]at k;exact k
  intro b g w C r;obtain⟨s,B⟩:=C;simp only[r 0 (by decide),r 1 (by decide),r 2 (by decide),r 3 (by decide),r 4 (by decide),r 5 (by decide),r 6 (by decide),r 7 (by decide),r 8 (by decide),pu,Nat.reduceAdd,Nat.reduceEqDiff,reduceIte];have J:=B (r 8 (by decide));have s1:(qb cur (off+(i+1)*2) ((flat es).drop (2*i))).size=cur.size:=jK (by rw[Q];omega);have X:w.heap[E]? =some (.cells (qb cur (off+(i+1)*2) ((flat es).drop (2*i))) 128 (0,0)):=by rw[<-J];exact setRow_heap w0 E _ _ 128 _ H
  have Y:w.heap[nb]? =some (.cells #[.int .i64 t,f] tb (0,0)):=by rw[<-J,setRow_other _ E nb _ ny];exact Z
  have aah:w.heap.size=w0.heap.size:=by rw[<-J];simp
  refine F.dh ?_;iterate 4 (refine F.oq rfl rfl rfl (λ_=>by first|(simp[go_sem];done)|simp[go_sem,Instr.makeInterface,Instr.makeFunc, *]) λd K D=>?_;go_simp;refine D _ ?_;clear D K d;try walk_nrm)
  refine F.CC rfl rfl (by decide) (.tmp 80) (.tmp 81) rfl (E:=E) (p:=off+i*2) (n:=1) (vs:=[.int .i64 t,f]) (bb:=⟨nb,0,none⟩) rfl rfl X (Nat.min_eq_left (by omega)).symm rfl (by simp only[eG,gM,s1];omega) (sw Y) h1c P T (by show nb<_;omega) ?_;intro w2 O;try walk_nrm
  refine F.dh ?_;iterate 2 (refine F.aF ?_;try walk_nrm)
  refine F.re ?_;refine F.ctl (λ_=>stepG_ret') ?_;refine F.bJ rfl rfl func60 (resultsC_tmp (by rfl) _) ?_;have Og:w2.heap[E]? =some (.cells (qb (qb cur (off+(i+1)*2) ((flat es).drop (2*i))) (off+i*2) [.int .i64 t,f]) 128 (0,0)):=by rw[<-O];exact setRow_heap w E _ _ 128 _ X
  refine hc _ _ ⟨⟨Z1,.inr ⟨E,off,cap,_,by rw[qU es i t f (by omega),hq];rfl,by rw[qU es i t f (by omega),hq];exact W,hE,Og,?_,λj u I=>?_⟩⟩,?_,λg hg=>?_⟩
  .rw[jK (by rw[s1];simp only[eG,gM];omega),s1];exact wm
  .rw[yK]at I
   exact BZ (R:=cur) (o:=off) (i:=i) (q:=q) Er (by omega) rfl (by omega) (λj u hj I=>Ca j u I) (.inr ⟨rfl,rfl⟩) j u I
  .have k1:Kp [E] w0 w:=J▸Kp.setRow w0 E _
   exact k1.qk (O▸Kp.setRow w E _) (by simp) (by simp)
  .rw[bq]at hg
   simp[Value.ownBlock]at hg;omega
 have c3:((cap:Int)<(q:Int)+1)=True:=by simp;omega
 have e2:∀w,(Instr.sliceAt 100 (.slice (some ⟨E,off,none⟩) q cap) none (some (.int .i64 i)) none).events prog w #[]=#[]:=λw=>(Lj w rfl (by omega)).2
 simp only[c3,decide_true];refine F.ct rfl ?_;refine F.cw ?_;iterate 8 (refine F.oq rfl rfl rfl (λ_=>by first|(simp[go_sem];done)|simp[go_sem,Instr.makeInterface,Instr.makeFunc, *]) λd K D=>?_;go_simp;refine D _ ?_;clear D K d;try walk_nrm)
 refine F.KG rfl rfl (by decide) (.tmp 34) (.tmp 39) rfl (p:=i) (n:=q+1-i) (xs:=(flat es).take (2*i)) rfl rfl H V (λj u I=>Ca j u (by rw[List.getElem?_take]at I;split at I;exact I;cases I)) (by omega) (by omega) (by omega) (λad h=>P ad false h) ?_;intro c' rs w1 wo Eo J;rw[hpn]at wo ⊢;try walk_nrm
 generalize qV:w0.heap.size=M at Tw LM U hN hc ⊢;have X:w1.heap[M]? =some (.cells (((flat es).take (2*i)).toArray++rs) 128 (0,0)):=by subst J;rw[<-qV];exact nv (w:=w0) rfl rfl
 have Te:w1.heap[E]? =some (.cells cur 128 (0,0)):=by subst J;rw[Below.heap_alloc _ _ _ (by omega)];exact H
 have Y:w1.heap[nb]? =some (.cells #[.int .i64 t,f] tb (0,0)):=by subst J;rw[Below.heap_alloc _ _ _ (by omega)];exact Z
 have Lg:w1.heap.size=M+1:=by subst J;simp[qV]
 have c4:(c'=i)=False:=by simp;omega
 have c5:(c'=i+1)=False:=by simp;omega
 have e3:∀w,(Instr.sliceAt 100 (.slice (some ⟨M,0,none⟩) (q+1) c') (some (.int .i64 i)) none none).events prog w #[]=#[]:=λw=>(me w rfl (by omega) (by omega)).2
 have e4:∀w,(Instr.sliceAt 100 (.slice (some ⟨M,0,none⟩) (q+1) c') (some (.int .i64 ((i:Int)+1))) none none).events prog w #[]=#[]:=λw=>(me w (L:=i+1) (by omega) (by omega) (by omega)).2
 have iq3:(i:Int)<=(q:Int)+1:=by omega
 have iq4:(i:Int)+1<=((q+1:Nat):Int):=by omega
 refine F.aF ?_;try walk_nrm
 refine F.dh ?_;iterate 4 (refine F.oq rfl rfl rfl (λ_=>by first|(simp[go_sem];done)|simp[go_sem,Instr.makeInterface,Instr.makeFunc, *]) λd K D=>?_;go_simp;refine D _ ?_;clear D K d;try walk_nrm)
 refine F.CC rfl rfl (by decide) (.tmp 43) (.tmp 44) rfl (E:=M) (p:=i*2) (n:=1) (vs:=[.int .i64 t,f]) (bb:=⟨nb,0,none⟩) rfl rfl X (Nat.min_eq_left (by omega)).symm rfl (by simp only[eG,gM,zy,vn,V,Eo];omega) (sw Y) h1c (λad wr h=>U ad wr (by omega)) T (by show nb<_;omega) ?_;intro w2 O;try walk_nrm
 have V3:(qb (((flat es).take (2*i)).toArray++rs) (i*2) [.int .i64 t,f]).size=(((flat es).take (2*i)).toArray++rs).size:=jK (by simp only[eG,gM,zy,vn,V,Eo];omega);have U0:(((flat es).take (2*i)).toArray++rs).size=2*c':=by simp only[zy,vn,V,Eo];omega
 have Og:w2.heap[M]? =some (.cells (qb (((flat es).take (2*i)).toArray++rs) (i*2) [.int .i64 t,f]) 128 (0,0)):=by rw[<-O];exact setRow_heap w1 M _ _ 128 _ X
 have Td:w2.heap[E]? =some (.cells cur 128 (0,0)):=by rw[<-O,setRow_other _ M E _ (by omega)];exact Te
 have P6:w2.heap.size=M+1:=by rw[<-O];simp[Lg]
 have DG:q+1-(i+1)=q-i:=by omega
 refine F.es ?_;refine F.yT (γ:=Unit) (n:=9) mixed [[],[],[],[1,2],[0,3],[],[],[5,6],[4,7]] rfl (by kernel_rfl) (λb g=>[(46,dD (b 0) (.slice (some ⟨M,0,none⟩) (q+1) c') (undef)),(47,dD (b 1) (.int .i64 i) (undef)),(48,dD (b 2) (.int .i64 1) (undef)),(49,dD (b 3) (.int .i64 ((i:Int)+1)) (undef)),(50,dD (b 4) (.slice (some ⟨M,(i+1)*2,none⟩) (q-i) (c'-(i+1))) (undef)),(51,dD (b 5) (.slice (some ⟨E,off,none⟩) q cap) (undef)),(52,dD (b 6) (.int .i64 i) (undef)),(53,dD (b 7) (.slice (some ⟨E,off+i*2,none⟩) (q-i) (cap-i)) (undef)),(54,dD (b 8) (.int .i64 ((q-i:Nat):Int)) (undef))]) (λb g w=>(b 8=false->w=w2)/\(b 8=true->(w2.setRow M (qb (qb (((flat es).take (2*i)).toArray++rs) (i*2) [.int .i64 t,f]) ((i+1)*2) ((flat es).drop (2*i)))=w))) (()) (by simp only[pu,Nat.reduceAdd,Nat.reduceEqDiff,reduceIte]) (⟨λ_=>rfl,λh=>by cases h⟩) (all_cons ?_ (all_cons ?_ (all_cons ?_ (all_cons ?_ (all_cons ?_ (all_cons ?_ (all_cons ?_ (all_cons ?_ (all_cons ?_ (all_nil)))))))))) ?_
 .intro b g w C m a A rest G x
  obtain⟨s,B⟩:=C;replace a:b 0=false:=a;have gl:=dz (m 4 0 rfl) a;have dB:=dz (m 8 4 rfl) gl;have z:=(s dB).symm;subst z;simp only[gl,dB,a,pu,Nat.reduceAdd,Nat.reduceEqDiff,reduceIte];refine F.aF ?_;try walk_nrm
  have k:=x g _ ⟨λ_=>rfl,λh=>no dB h⟩;simp only[gl,dB,a,pu,Nat.reduceAdd,Nat.reduceEqDiff,reduceIte]at k;exact k
 .intro b g w C m a A rest G x
  obtain⟨s,B⟩:=C;replace a:b 1=false:=a;have jZ:=dz (m 3 1 rfl) a;have gl:=dz (m 4 3 rfl) jZ;have dB:=dz (m 8 4 rfl) gl;have z:=(s dB).symm;subst z;simp only[jZ,gl,dB,a,pu,Nat.reduceAdd,Nat.reduceEqDiff,reduceIte];refine F.aF ?_;try walk_nrm
  have k:=x g _ ⟨λ_=>rfl,λh=>no dB h⟩;simp only[jZ,gl,dB,a,pu,Nat.reduceAdd,Nat.reduceEqDiff,reduceIte]at k;exact k
 .intro b g w C m a A rest G x
  obtain⟨s,B⟩:=C;replace a:b 2=false:=a;have jZ:=dz (m 3 2 rfl) a;have gl:=dz (m 4 3 rfl) jZ;have dB:=dz (m 8 4 rfl) gl;have z:=(s dB).symm;subst z;simp only[jZ,gl,dB,a,pu,Nat.reduceAdd,Nat.reduceEqDiff,reduceIte];refine F.aF ?_;try walk_nrm
  have k:=x g _ ⟨λ_=>rfl,λh=>no dB h⟩;simp only[jZ,gl,dB,a,pu,Nat.reduceAdd,Nat.reduceEqDiff,reduceIte]at k;exact k
 .intro b g w C m a A rest G x
  obtain⟨s,B⟩:=C;replace a:b 3=false:=a;have d1:=A 1 rfl;have d2:=A 2 rfl;have gl:=dz (m 4 3 rfl) a;have dB:=dz (m 8 4 rfl) gl;have z:=(s dB).symm;subst z;simp only[d1,d2,gl,dB,a,pu,Nat.reduceAdd,Nat.reduceEqDiff,reduceIte];refine F.aF ?_;try walk_nrm
  have k:=x g _ ⟨λ_=>rfl,λh=>no dB h⟩;simp only[d1,d2,gl,dB,a,pu,Nat.reduceAdd,Nat.reduceEqDiff,reduceIte]at k;exact k
 .intro b g w C m a A rest G x
  obtain⟨s,B⟩:=C;replace a:b 4=false:=a;have d0:=A 0 rfl;have d3:=A 3 rfl;have dB:=dz (m 8 4 rfl) a;have z:=(s dB).symm;subst z;simp only[d0,d3,dB,a,pu,Nat.reduceAdd,Nat.reduceEqDiff,reduceIte];refine F.oq rfl rfl rfl (λ_=>by first|(simp[go_sem];done)|simp[go_sem,Instr.makeInterface,Instr.makeFunc, *]) λd K D=>?_;go_simp;refine D _ ?_;clear D K d;try walk_nrm
  have k:=x g _ ⟨λ_=>rfl,λh=>no dB h⟩;simp only[d0,d3,dB,a,pu,Nat.reduceAdd,Nat.reduceEqDiff,reduceIte]at k;exact k
 .intro b g w C m a A rest G x
  obtain⟨s,B⟩:=C;replace a:b 5=false:=a;have vU:=dz (m 7 5 rfl) a;have dB:=dz (m 8 7 rfl) vU;have z:=(s dB).symm;subst z;simp only[vU,dB,a,pu,Nat.reduceAdd,Nat.reduceEqDiff,reduceIte];refine F.aF ?_;try walk_nrm
  have k:=x g _ ⟨λ_=>rfl,λh=>no dB h⟩;simp only[vU,dB,a,pu,Nat.reduceAdd,Nat.reduceEqDiff,reduceIte]at k;exact k
 .intro b g w C m a A rest G x
  obtain⟨s,B⟩:=C;replace a:b 6=false:=a;have vU:=dz (m 7 6 rfl) a;have dB:=dz (m 8 7 rfl) vU;have z:=(s dB).symm;subst z;simp only[vU,dB,a,pu,Nat.reduceAdd,Nat.reduceEqDiff,reduceIte];refine F.aF ?_;try walk_nrm
  have k:=x g _ ⟨λ_=>rfl,λh=>no dB h⟩;simp only[vU,dB,a,pu,Nat.reduceAdd,Nat.reduceEqDiff,reduceIte]at k;exact k
 .intro b g w C m a A rest G x
  obtain⟨s,B⟩:=C;replace a:b 7=false:=a;have d5:=A 5 rfl;have d6:=A 6 rfl;have dB:=dz (m 8 7 rfl) a;have z:=(s dB).symm;subst z;simp only[d5,d6,dB,a,pu,Nat.reduceAdd,Nat.reduceEqDiff,reduceIte];refine F.oq rfl rfl rfl (λ_=>by first|(simp[go_sem];done)|simp[go_sem,Instr.makeInterface,Instr.makeFunc, *]) λd K D=>?_;go_simp;refine D _ ?_;clear D K d;try walk_nrm
  have k:=x g _ ⟨λ_=>rfl,λh=>no dB h⟩;simp only[d5,d6,dB,a,pu,Nat.reduceAdd,Nat.reduceEqDiff,reduceIte]at k;exact k
 .intro b g w C m a A rest G x
  obtain⟨s,B⟩:=C;replace a:b 8=false:=a;have d4:=A 4 rfl;have d7:=A 7 rfl;have z:=(s a).symm;subst z;simp only[d4,d7,a,pu,Nat.reduceAdd,Nat.reduceEqDiff,reduceIte];refine F.CC rfl rfl (by decide) (.tmp 50) (.tmp 53) rfl (E:=M) (p:=(i+1)*2) (n:=q-i) (vs:=(flat es).drop (2*i)) (bb:=⟨E,off+i*2,none⟩) rfl rfl Og (Nat.min_self _).symm Q (by rw[Q,V3,U0];omega) (oK Td Si) LX (λad wr h=>U ad wr (by omega)) (λad h=>P ad false h) (by show E<_;omega) ?_;intro w3 S;try walk_nrm
  have k:=x g _ ⟨λh=>by simp[tick]at h,λ_=>S⟩;simp only[d4,d7,a,pu,Nat.reduceAdd,Nat.reduceEqDiff,reduceIte]at k;exact k
 intro b g w C r;obtain⟨s,B⟩:=C;simp only[r 0 (by decide),r 1 (by decide),r 2 (by decide),r 3 (by decide),r 4 (by decide),r 5 (by decide),r 6 (by decide),r 7 (by decide),r 8 (by decide),pu,Nat.reduceAdd,Nat.reduceEqDiff,reduceIte];have S:=B (r 8 (by decide));refine F.dh ?_;iterate 2 (refine F.aF ?_;try walk_nrm)
 refine F.re ?_;refine F.ctl (λ_=>stepG_ret') ?_;refine F.bJ rfl rfl func60 (resultsC_tmp (by rfl) _) ?_;have hr3:w.heap[M]? =some (.cells (qb (qb (((flat es).take (2*i)).toArray++rs) (i*2) [.int .i64 t,f]) ((i+1)*2) ((flat es).drop (2*i))) 128 (0,0)):=by rw[<-S];exact setRow_heap w2 M _ _ 128 _ Og
 refine hc _ _ ⟨⟨Z1,.inr ⟨M,0,c',_,by rw[qU es i t f (by omega),hq];rfl,by rw[qU es i t f (by omega),hq];exact wo,hN,hr3,?_,λj u I=>?_⟩⟩,?_,λg hg=>?_⟩
 .rw[jK (by rw[Q,V3,U0];omega),V3,U0];omega
 .rw[yK]at I
  refine BZ (R:=((flat es).take (2*i)).toArray++rs) (R1:=qb (((flat es).take (2*i)).toArray++rs) (i*2) [.int .i64 t,f]) (o:=0) (i:=i) (q:=q) Er (by omega) rfl (by rw[U0];omega) (λj u hj I=>?_) (.inl ⟨by rw[bD],by rw[bD]⟩) j u I;rw[bD,tI (by simp only[vn,V];exact hj),Da,EN hj];exact I
 .have k1:Kp [E] w0 w1:=Kp.alloc J
  have k2:Kp [E] w0 w2:=k1.qk (O▸Kp.setRow w1 M _) (by simp;omega) (by simp);exact k2.qk (S▸Kp.setRow w2 M _) (by simp;omega) (by simp)
 .rw[bq]at hg
  simp[Value.ownBlock]at hg;omega
structure kP(es:jg)(t:Int)(i:Nat):Prop where
 gt:∀j e,i<=j->es[j]? =some e->t<e.1
 le:∀e,0<i->es[i-1]? =some e->e.1<=t
def Jy(f:Func):Code:=match f.body with|some (.seq _ (.seq (.block _ (.loop b)) _))=>b|_=>.skip
def Nu(f:Func):Code:=match f.body with|some (.seq _ (.seq _ r))=>r|_=>.skip
theorem eX.some_or(h:eX N w v es):(zv N w v/\es=[])\/∃E off cap cur,v=.slice (some ⟨E,off,none⟩) es.length cap/\es.length<=cap/\N<=E/\w.heap[E]? =some (.cells cur 128 (0,0))/\off+2*cap<=cur.size/\∀(j:Nat)(u:ay),(flat es)[j]? =some u->cur[off+j]? =some u:=by
 rcases h.2 with ⟨rfl,rfl⟩|x
 .exact .inl ⟨.inl rfl,rfl⟩
 .exact .inr x
theorem One.bQ(h:One N w v t f)(k:f.oneCell'=true):eX N w v [(t,f)]:=by
 obtain⟨E,off,cap,cur,rfl,o2,i,g,d,c⟩:=h;refine⟨λe b=>by simp at b;subst b;exact k,.inr ⟨E,off,cap+1,cur,rfl,by simp,o2,i,g,λj u a=>?_⟩⟩
 match j,a with
 |0,a=>simp[flat]at a;subst a;exact d
 |1,a=>simp[flat]at a;subst a;exact c
 |j+2,a=>simp[flat]at a
theorem Cj:∀(es:jg)(j:Nat),j<es.length->(flat es)[2*j]? =some (.int .i64 (es.getD j (0,.nilFunc)).1)
 |e::es,0,_=>rfl
 |e::es,j+1,h=>by
  have a:=Cj es j (by simpa using h);rw[show 2*(j+1)=2*j+1+1 by omega];simpa [flat]using a
theorem R0(w:aj)(h:p<q):(Instr.indexAt 100 (.slice (some ⟨E,off,none⟩) q cap) (.int .i64 (p:Int))).events prog w #[]=#[]:=by
 obtain⟨inf,z,b,g,a,e,d⟩:=kH;have c:(p:Int)<(q:Int):=by omega
 simp[Instr.indexAt,run_underlying cQ,Instr.index,asInt,asIntOf,sizeOf,typeInfo,b,a,h,c]
theorem FO{Ψ:gi}(F:aC prog main (DX Ok) Ψ)(A:Nat)(t:Int)(fv:ay)(w0:aj)(Oh:q<900)(Ip:w0.cell? ⟨A,1,none⟩=some (.slice (some ⟨E,off,none⟩) q cap))(okr:Ok ⟨A,1,none⟩ false)(ts:Nat->Int)(hx:∀j,j<q->w0.cell? ⟨E,off+j*2,none⟩=some (.int .i64 (ts j)))(Qa:∀(ad:Addr)(wr:Bool),ad.block=E->Ok ad wr)(c:aE)(cs:cW)(hk:∀i:Nat,i<=q->(∀j,i<=j->j<q->t<ts j)->(0<i->¬t<ts (i-1))->∀y3 y4 y5 y7 y8 y9 Df De Dd Dc Z Y X W V U T S Q P O M J I H D C B y u s r o n k g b a:Value,Ψ (G ((base 49).at ⟨List.toArray (.pointer (some ⟨A,0,none⟩)::.int .i64 t::fv::y3::y4::y5::.int .i64 (i:Int)::y7::y8::y9::Df::De::Dd::Dc::Z::Y::X::W::V::U::T::S::Q::P::O::M::J::I::H::D::C::B::y::u::s::r::o::n::k::g::b::a::[]),[]⟩ [.code (Nu f49)]) (c::cs)) w0):
 ∀p:Nat,p<=q->(∀j,p<=j->j<q->t<ts j)->∀y3 y4 y5 y7 y8 y9 Df De Dd Dc Z Y X W V U T S Q P O M J I H D C B y u s r o n k g b a:Value,Ψ (G ((base 49).at ⟨List.toArray (.pointer (some ⟨A,0,none⟩)::.int .i64 t::fv::y3::y4::y5::.int .i64 (p:Int)::y7::y8::y9::Df::De::Dd::Dc::Z::Y::X::W::V::U::T::S::Q::P::O::M::J::I::H::D::C::B::y::u::s::r::o::n::k::g::b::a::[]),[]⟩ [.code (Jy f49),.inLoop (Jy f49),.inBlock 0,.code (Nu f49)]) (c::cs)) w0:=by
 intro p
 induction p with
 |zero=>
  intro hp Oz y3 y4 y5 y7 y8 y9 Df De Dd Dc Z Y X W V U T S Q P O M J I H D C B y u s r o n k g b a;simp only[Jy,f49];refine F.sq ?_;refine F.cw ?_;iterate 3 (refine F.aF ?_;try walk_nrm)
  refine F.cU ?_;try walk_nrm
  refine F.cU ?_;try walk_nrm
  refine F.cU ?_;try walk_nrm
  refine F.cU ?_;try walk_nrm
  refine F.cU ?_;try walk_nrm
  refine F.cU ?_;try walk_nrm
  refine F.cU ?_;try walk_nrm
  refine F.cU ?_;try walk_nrm
  refine F.cU ?_;try walk_nrm
  refine F.cU ?_;try walk_nrm
  refine F.cU ?_;try walk_nrm
  refine F.aF ?_;try walk_nrm
  refine F.re ?_;refine F.cf rfl ?_;refine F.ctl (λ_=>stepG_exit rfl) ?_;exact hk 0 hp Oz (λz=>absurd z (by decide)) _ _ _ _ _ _ _ _ _ _ _ _ _ _ _ _ _ _ _ _ _ _ _ _ _ _ _ _ _ _ _ _ _ _ _ _ _ _
 |succ p ih=>
  intro hp Oz y3 y4 y5 y7 y8 y9 Df De Dd Dc Z Y X W V U T S Q P O M J I H D C B y u s r o n k g b a;have JH:=hx p hp;generalize WA:ts p=x at JH;have okx:Ok ⟨E,off+p*2,none⟩ false:=Qa _ _ rfl;have wp:IntKind.i64.wrap (p:Int)=(p:Int):=nX (by omega) (by omega);have pp:((0:Int)<(p:Int)+1)=True:=propext ⟨λ_=>trivial,λ_=>by omega⟩;have pq:(p:Int)<(q:Int):=by omega
  have pq':p<q:=hp;rw[show(((p+1:Nat):Int))=(p:Int)+1 from by omega];have p1:(p:Int)+1-1=(p:Int):=by omega
  simp only[Jy,f49];refine F.sq ?_;refine F.cw ?_;iterate 6 (refine F.aF ?_;try walk_nrm)
  refine F.ol rfl rfl rfl λd K h=>?_;go_simp;refine h _ (λe m=>?_) ?_;simp[go_sem, *]at m;subst m;exact jB (w:=w0) (by assumption) (by first|assumption|(apply qg<;>dsimp only<;>omega));clear h K d;try walk_nrm
  iterate 2 (refine F.aF ?_;try walk_nrm)
  have e9:∀w,(Instr.indexAt 100 (.slice (some ⟨E,off,none⟩) q cap) (.int .i64 (p:Int))).events prog w #[]=#[]:=λw=>R0 w pq'
  refine F.Ac rfl rfl (by decide) (λd=>by simp[go_sem,e9]) (λd K hK=>?_);go_simp;refine hK _ ?_;clear hK K d;try walk_nrm
  refine F.aF ?_;try walk_nrm
  refine F.ol rfl rfl rfl λd K h=>?_;go_simp;refine h _ (λe m=>?_) ?_;simp[go_sem, *]at m;subst m;exact jB (w:=w0) (by assumption) (by first|assumption|(apply qg<;>dsimp only<;>omega));clear h K d;try walk_nrm
  iterate 3 (refine F.aF ?_;try walk_nrm)
  refine F.re ?_
  by_cases ht:t<x
  .simp only[ht,decide_true]
   refine F.ct rfl ?_;refine F.sk ?_;refine F.bl ?_;refine F.zW ?_;iterate 3 (refine F.aF ?_;try walk_nrm)
   refine F.re ?_;refine F.ib ?_;refine F.ctl (λ_=>stepG_inLoop) ?_;exact ih (Nat.le_of_succ_le hp) (λj h1 h2=>by rcases MF h1 with e|e;subst e;rw[WA];exact ht;exact Oz j e h2) _ _ _ _ _ _ _ _ _ _ _ _ _ _ _ _ _ _ _ _ _ _ _ _ _ _ _ _ _ _ _ _ _ _ _ _ _ _
  .simp only[ht,decide_false]
   refine F.cf rfl ?_;refine F.ctl (λ_=>stepG_exit rfl) ?_;exact hk (p+1) hp Oz (λ_=>by rw[fY,WA];exact ht) _ _ _ _ _ _ _ _ _ _ _ _ _ _ _ _ _ _ _ _ _ _ _ _ _ _ _ _ _ _ _ _ _ _ _ _ _ _
theorem FP(N A:Nat)(t:Int)(fn:Fn)(fst cap':fW)(en:ay)(es:jg)(w0:aj)(hN:N<=w0.heap.size)(lA:A<N)(Oh:es.length<900)(T:eX N w0 en es)(b:w0.cell? ⟨A,1,none⟩=some en)(u:w0.frozen? ⟨A,1,none⟩=false)(W:Ok ⟨A,1,none⟩ false)(okw:Ok ⟨A,1,none⟩ true)(J:∀(a:Addr)(wr:Bool),a.block∈bU en\/w0.heap.size<=a.block->Ok a wr):
 eC prog main (DX Ok) 49 #[.pointer (some ⟨A,0,none⟩),.int .i64 t,.func fn fst cap'] w0 λr w'=>r=.tuple #[]/\Kp (bU en) w0 w' [⟨A,1,none⟩]/\∃V i,i<=es.length/\kP es t i/\w'.cell? ⟨A,1,none⟩=some V/\w'.frozen? ⟨A,1,none⟩=false/\eX N w' V (es.take i++(t,.func fn fst cap')::es.drop i)/\∀g∈bU V,g∈bU en\/w0.heap.size<=g:=by
 rcases eX.some_or T with ⟨XN,GJ⟩|⟨E,off,cap,cur,hv,hle,hE,B,wm,X⟩
 .subst GJ
  refine(Rn N A t fn fst cap' en w0 hN lA XN b u W okw J).mono λr w' ⟨U,S,V,h3,h4,h5,h6⟩=>⟨U,S,V,0,az _,⟨λj e _ h=>(by simp at h),λe h _=>absurd h (by decide)⟩,h3,h4,h5.bQ rfl,h6⟩
 intro Ψ F c cs hc;have Tw:E<w0.heap.size:=(cH.1 B).1;have n:∀g,g∈bU en↔g=E:=λg=>by rw[bq,hv];simp[Value.ownBlock];exact⟨λh=>h.symm,λh=>h.symm⟩
 have Q:A≠E:=by omega
 have hAv:A∉bU en:=λz=>Q ((n A).1 z)
 have H:∀(ad:Addr)(wr:Bool),ad.block=E->Ok ad wr:=λad wr h=>J ad wr (.inl ((n _).2 h))
 have okF:∀(ad:Addr)(wr:Bool),w0.heap.size<=ad.block->Ok ad wr:=λad wr h=>J ad wr (.inr h)
 have Aw:=T.1;have C:w0.cell? ⟨A,1,none⟩=some (.slice (some ⟨E,off,none⟩) es.length cap):=hv▸b
 have Y:∀j,j<es.length->w0.cell? ⟨E,off+j*2,none⟩=some (.int .i64 (es.getD j (0,.nilFunc)).1):=λj hj=>by
  rw[oJ B,show off+j*2=off+2*j by omega];exact X _ _ (Cj es j hj)
 clear b;rw[enter_at _ func49 rfl];simp only[ntmps49,oP,Nat.reduceAdd,Nat.reduceSub];refine F.cw ?_;iterate 3 (refine F.aF ?_;try walk_nrm)
 refine F.ol rfl rfl rfl λd K h=>?_;go_simp;refine h _ (λe m=>?_) ?_;simp[go_sem, *]at m;subst m;exact jB (w:=w0) (by assumption) (by first|assumption|(apply O<;>dsimp only<;>omega));clear h K d;try walk_nrm
 iterate 2 (refine F.aF ?_;try walk_nrm)
 refine F.es ?_;refine F.bl ?_;refine F.ctl (λ_=>stepG_loop) ?_;refine FO F A t (.func fn fst cap') w0 (q:=es.length) Oh C W (λj=>(es.getD j (0,.nilFunc)).1) Y H c cs ?_ es.length (az _) (λj U S=>by omega) _ _ _ _ _ _ _ _ _ _ _ _ _ _ _ _ _ _ _ _ _ _ _ _ _ _ _ _ _ _ _ _ _ _ _ _ _ _;clear Y;intro i hi Oz I y3 y4 y5 y7 y8 y9 Df De Dd Dc M1 MZ MY MX MW MV MU MT P4 P2 P1 P0 PZ PY PW PU PT PR PO PN PM VU VT VS VR VQ VP VO;have Oj:kP es t i:=⟨λj e U S=>by obtain⟨h3,h4⟩:=nS.1 S;have:=Oz j U h3;rw[o8,S]at this;exact this,λe U S=>by have:=I U;rw[o8,S]at this;simp at this;exact this⟩;clear Oz I;simp only[Nu,f49];have b:=C;clear C;refine F.zW ?_;iterate 4 (refine F.aF ?_;try walk_nrm)
 refine F.ol rfl rfl rfl λd K h=>?_;go_simp;refine h _ (λe m=>?_) ?_;simp[go_sem, *]at m;subst m;exact jB (w:=w0) (by assumption) (by first|assumption|(apply O<;>dsimp only<;>omega));clear h K d;try walk_nrm
 iterate 4 (refine F.aF ?_;try walk_nrm)
 refine F.op rfl rfl (by decide) (λd K hK=>?_);go_simp;rw[alloc_at'];refine hK _ _ ⟨DX.alloc _ _ (λe T=>?_),?_⟩
 .have hm:=mem_listed T
  simp[go_sem]at hm
 clear hK K d;try walk_nrm
 generalize k:World.alloc w0 _=w1;generalize o:(World.heap w0).size=n1;have Lg:=gr k o;replace u:=dG u b k;replace b:=bz b k;have Z8:=aV (i:=0) k o rfl;have ze0:=bY k o 0;have As:=aV (i:=1) k o rfl;have ze1:=bY k o 1;try simp only[rz,rD,rC]at Z8 As
 have M:Kp (bU en) w0 w0 [⟨A,1,none⟩]:=Kp.refl _;replace M:=M.zb k;have P:w1.heap[E]? =some (.cells cur 128 (0,0)):=by rw[<-k,Below.heap_alloc _ _ _ Tw];exact B
 have Xn:w1.heap[n1]? =some (.cells #[.int .i64 t,.func fn fst cap'] 128 (0,0)):=by rw[<-o];exact nv k rfl
 refine F.enter rfl rfl (by decide) (λ_=>run_call_body rfl func60 (by rfl) (by rfl)) (λ_=>events_call_body rfl func60 (by rfl) (by rfl) _) ?_;walk_nrm;refine DC N n1 i t (.func fn fst cap') 128 w1 es Oh hi (by omega) Aw hle hE P wm X Xn rfl (by omega) H (λad h=>okF ad false (by omega)) (λad wr h=>okF ad wr (by omega)) _ F _ _ (λv w' hp=>?_);obtain⟨ho,kg,ZS⟩:=hp;have rE:∀x,x∈[E]->x∈bU en:=λx hx=>(n x).2 (by simpa using hx)
 generalize pQ:es.take i++(t,.func fn fst cap')::es.drop i=ys at ho hc;rw[bO];try walk_nrm
 have D:=kg.cell _ _ (by simp;exact Q) b;have s:=(kg.O2 _ _ (by simp;exact Q) b).trans u;replace M:=M.Mo kg (λx hx=>.inl (rE x hx));obtain⟨b2,aaC,Sd,hv3⟩:=id ho.form;have Ih:A∉bU v:=λz=>by rcases ZS A z with y|y<;>omega
 have Z:∀g∈bU v,g∈bU en\/w0.heap.size<=g:=λg hg=>(ZS g hg).imp (λy=>(n g).2 y) λy=>by omega
 subst Sd;have iE:∀(w:aj)(d:Nat),(w.at d).heap.size=w.heap.size:=λ_ _=>rfl
 have size_set:∀(w:aj)(a:Addr)(v:ay),(w.setCell a v).heap.size=w.heap.size:=λw a v=>by simp[World.setCell]
 clear b u Z8 As ze0 ze1;iterate 2 (refine F.aF ?_;try walk_nrm)
 refine F.op rfl rfl (by decide) (λd K hK=>?_);go_simp;rw[setCell_at'];refine hK _ _ ⟨DX.set _ (by(first|assumption|(apply O<;>dsimp only<;>omega))) (λe T=>?_),?_⟩
 .have hm:=mem_listed T
  simp[go_sem,storedEv,ey,fQ,ez,gW,fF, *]at hm;subst hm;exact .inl ⟨_,rfl,rfl,by(first|assumption|(apply O<;>dsimp only<;>omega)),by simp only[iE,size_set];first|omega|exact au (by assumption)⟩
 clear hK K d;try walk_nrm
 generalize G:World.setCell w' _ _=w2;have P6:=lI G;replace s:=dV s G;replace D:=jC D G;replace M:=M.Bv G (by first|(left;simp;done)|(right;left;simp;done)|(right;right;dsimp only;omega));refine F.re ?_;refine F.ctl (λ_=>stepG_end) ?_;refine F.bJ rfl rfl func49 (resultsC_none (by rfl) _) ?_;refine hc _ _ ⟨rfl,M,_,i,hi,Oj,D,s,?_,Z⟩;rw[pQ];exact(Kp.I7 G).bQ ho (λg hg=>⟨by simp,by simp;exact λz=>Ih (z▸hg)⟩)
end Go.Proofs.YtobagnjnbmgidaaGreatDoor
