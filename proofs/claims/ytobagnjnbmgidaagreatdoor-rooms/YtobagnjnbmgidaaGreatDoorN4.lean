import Derived.Test.YtobagnjnbmgidaaGreatDoorN1
set_option linter.all false
set_option maxHeartbeats 0
set_option maxRecDepth 100000
namespace Go.Proofs.YtobagnjnbmgidaaGreatDoor
open Go.Conc Go.RowKit Tryz
variable{l:Int}{E L m off p q:Nat}{f:ay}{R:gd}
variable{B:Bool}{s:dh}
theorem l6(w:aj)(c:l=L)(d:L<=q)(e:q<=m):(Instr.sliceAt 100 (.slice (some ⟨E,off,none⟩) q m) (some (.int .i64 l)) none none).run prog w=.ok (.slice (some (if m=L then⟨E,off,none⟩else⟨E,off+L*2,none⟩)) (q-L) (m-L)) w/\
 (Instr.sliceAt 100 (.slice (some ⟨E,off,none⟩) q m) (some (.int .i64 l)) none none).events prog w #[]=#[]:=by
 obtain⟨inf,z,b,e,a,e,e⟩:=lO;subst c;have c:(L:Int)<=(q:Int):=by omega
 constructor
 .simp[Instr.sliceAt,run_underlying dZ,Instr.slice,Instr.sliceBounds,Instr.sliceBound,asInt,asIntOf,sizeOf,typeInfo,b,a,c,d,ey];grind
 .simp[Instr.sliceAt,run_underlying dZ,Instr.slice,Instr.sliceBounds,Instr.sliceBound,asInt,asIntOf,sizeOf,typeInfo,b,a,c,d]
theorem Ki(w:aj){b:Addr}(d:l=L)(e:L<=m):(Instr.sliceAt 100 (.slice (some b) q m) none (some (.int .i64 l)) none).run prog w=.ok (.slice (some b) L m) w/\
 (Instr.sliceAt 100 (.slice (some b) q m) none (some (.int .i64 l)) none).events prog w #[]=#[]:=by
 obtain⟨inf,z,c,f,a,f,f⟩:=lO;subst d;have d:(L:Int)<=(m:Int):=by omega
 have f:b.add 0=b:=by rfl
 constructor
 .simp[Instr.sliceAt,run_underlying dZ,Instr.slice,Instr.sliceBounds,Instr.sliceBound,asInt,asIntOf,sizeOf,typeInfo,c,a,d,e,f]
 .simp[Instr.sliceAt,run_underlying dZ,Instr.slice,Instr.sliceBounds,Instr.sliceBound,asInt,asIntOf,sizeOf,typeInfo,c,a,d,e]
def pP(R:gd)(p:Nat)(vs:iO):Array Value:=(R.toList.take p++vs++R.toList.drop (p+vs.length)).toArray
theorem jL{a:iO}(h:p+a.length<=R.size):(pP R p a).size=R.size:=pO R p a h
theorem Bh{R1 R2:gd}{o i:Nat}{a b:iO}(c:a.length=2*q)(c:i<=q)(c:b.length=2)(c:o+2*(q+1)<=R.size)(c:∀(j:Nat)(u:ay),j<2*i->a[j]? =some u->R[o+j]? =some u)(h:(R1=pP R (o+i*2) b/\R2=pP R1 (o+(i+1)*2) (a.drop (2*i)))\/(R1=pP R (o+(i+1)*2) (a.drop (2*i))/\R2=pP R1 (o+i*2) b)):
 ∀(j:Nat)(u:ay),(a.take (2*i)++(b++a.drop (2*i)))[j]? =some u->R2[o+j]? =some u:=by
 have d:(a.drop (2*i)).length=2*q-2*i:=by simp;omega
 have g:(a.take (2*i)).length=2*i:=by simp;omega
 intro j u f;have key:R2[o+j]? =if j<2*i then R[o+j]? else if j<2*i+2 then b[j-2*i]? else if j<2*q+2 then(a.drop (2*i))[j-(2*i+2)]? else R[o+j]? :=by
  rcases h with ⟨rfl,rfl⟩|⟨rfl,rfl⟩
  .have e:(pP R (o+i*2) b).size=R.size:=jL (by omega);rw[pP,eE _ _ _ (by omega),d];by_cases b:j<2*i
   .rw[ah (by omega),ah b,pP,eE _ _ _ (by omega),ah (by omega)]
   .rw[af b];by_cases c:j<2*i+2
    .rw[ah (by omega),ah c,pP,eE _ _ _ (by omega),af (by omega),ah (by omega)];grind
    .rw[af (by omega),af c];by_cases c3:j<2*q+2
     .rw[ah (by omega),ah c3];congr 1;omega
     grind
  .have e:(pP R (o+(i+1)*2) (a.drop (2*i))).size=R.size:=jL (by omega);rw[pP,eE _ _ _ (by omega)];by_cases b:j<2*i
   .rw[ah (by omega),ah b,pP,eE _ _ _ (by omega),ah (by omega)]
   .rw[af (by omega),af b];by_cases c:j<2*i+2
    .grind
    .rw[af (by omega),af c,pP,eE _ _ _ (by omega),af (by omega),d];by_cases c3:j<2*q+2
     .rw[ah (by omega),ah c3];congr 1;omega
     grind
 rw[key];by_cases b:j<2*i
 .grind
 .rw[af b];rw[vf (by omega),g]at f;grind
theorem yf(es:jl)(i:Nat)(t:Int)(f:ay):flat (es.take i++(t,f)::es.drop i)=(flat es).take (2*i)++([.int .i64 t,f]++(flat es).drop (2*i)):=by
 rw[lS,uJ,show flat ((t,f)::es.drop i)=.int .i64 t::f::flat (es.drop i)from rfl,uK];rfl
theorem IP{es:jl}(h:∀e∈es,e.2.oneCell'=true)(a:f.oneCell'=true)(i:Nat)(t:Int):∀e∈es.take i++(t,f)::es.drop i,e.2.oneCell'=true:=λe a=>by
 grind
theorem qL(es:jl)(i:Nat)(t:Int)(f:ay)(h:i<=es.length):(es.take i++(t,f)::es.drop i).length=es.length+1:=by simp;omega
theorem Kp.setRow(w:aj)(E:Nat)(a:gd):Kp [E] w (w.setRow E a):=by
 have:=Kp.grown (v:=.slice (some ⟨E,0,none⟩) 0 0) (w:=w) (w':=w.setRow E a) ⟨rfl,rfl,rfl,by simp,λk _ a=>setRow_other w E k _ (λe=>a (by simp[Value.ownBlock,e]))⟩;simpa [cw,Value.ownBlock]using this
theorem nS{x:Int}(a:0<=x)(a:x<1000000000):IntKind.i64.wrap x=x:=by rw[IntKind.wrap_i64];omega
theorem rT{w:aj}{a:Nat}{t:Int}{b:TypeId}(h:w.heap[a]? =some (.cells #[.int .i64 t,f] b (0,0))):∀j u,([.int .i64 t,f]:iO)[j]? =some u->w.cell? ((⟨a,0,none⟩:Addr).add j)=some u:=λj u a=>by
 rw[ey,oz h,bK,Hz];exact a
theorem NT(w:aj)(b:eP)(c:Nat):(Instr.sliceAt 100 (.slice b 0 c) (some (.int .i64 0)) none none).events prog w #[]=#[]:=by
 rfl
theorem CE(N T i:Nat)(t:Int)(f:ay)(tb:TypeId)(J:aj)(es:jl)(To:es.length<1000000)(hi:i<=es.length)(hN:N<=J.heap.size){en:ay}(P:fZ N J en es)(Z:J.heap[T]? =some (.cells #[.int .i64 t,f] tb (0,0)))(hf:f.oneCell'=true)(qM:T∉cw en)(W7:∀(H:Addr)(wr:Bool),H.block∈cw en\/J.heap.size<=H.block->s H wr)(S:∀H:Addr,H.block=T->s H false):
 fG prog B (DX s) 60 #[en,.int .i64 i,.slice (some ⟨T,0,none⟩) 1 1] J λv' w'=>fZ N w' v' (es.take i++(t,f)::es.drop i)/\Kp (cw en) J w'/\∀g∈cw v',g∈cw en\/J.heap.size<=g:=by
 have U6:T<J.heap.size:=(cU.1 Z).1;have Tr:=rT Z;intro Ψ F c cs hc;simp only[enter_at _ func60 rfl,ntmps60];walk_nrm;rcases id P.2 with ⟨rfl,rfl⟩|⟨E,off,m,M,rfl,hle,hE,I,VC,Qb⟩
 .obtain rfl:i=0:=by simp_all
  refine F.cF ?_;refine F.aJ ?_;refine F.re ?_;refine F.cF ?_;iterate 2 (refine F.aJ ?_)
  refine F.AZ rfl rfl (by decide) (λ_=>(by rfl)) (λd K A=>?_);go_simp;refine A _ ?_;clear A K d;try walk_nrm
  refine F.dA ?_;iterate 3 (refine F.aJ ?_)
  refine F.es ?_;refine F.cF ?_;iterate 2 (refine F.aJ ?_)
  refine F.re ?_;refine F.cf rfl ?_;refine F.sk ?_;refine F.cF ?_;iterate 3 (refine F.aJ ?_)
  refine F.es ?_;refine F.cF ?_;iterate 3 (refine F.aJ ?_)
  refine F.re ?_;refine F.ct rfl ?_;refine F.cF ?_;iterate 2 (refine F.aJ ?_)
  refine F.BQ rfl rfl (by decide) (.tmp 23) (.tmp 24) rfl (N:=N) (nb:=T) (v:=.slice none 0 0) (es:=[]) (t:=t) (f:=f) (by decide) hN rfl rfl P (Tr 0 _ rfl) (Tr 1 _ rfl) hf (λH wr h=>by cases h) S ?_;intro v' w' ho hg hb;try walk_nrm
  refine F.aJ ?_;refine F.tC func60 ?_;refine hc _ _ ⟨ho,Kp.grown hg,λg (h:g∈cw v')=>.inr ?_⟩;rw[bS]at h;rcases hb with y|y;rw[y]at h;cases h;simp_all
 have XV:E<J.heap.size:=(cU.1 I).1;have o:=P.1;have U:∀(H:Addr)(wr:Bool),H.block=E->s H wr:=λH wr h=>W7 H wr (.inl (by simp[cw,Value.ownBlock,h]));have W:∀(H:Addr)(wr:Bool),J.heap.size<=H.block->s H wr:=λH wr h=>W7 H wr (.inr h);replace qM:T≠E:=λh=>qM (by simp[cw,Value.ownBlock,h]);replace hc:∀v' w',fZ N w' v' (es.take i++(t,f)::es.drop i)/\Kp [E] J w'/\(∀g∈cw v',g=E\/J.heap.size<=g)->Ψ (G (c.finish v') cs) w':=λv w h=>hc v w ⟨h.1,h.2.1,λg hg=>(h.2.2 g hg).imp (λe=>by simp[cw,Value.ownBlock,e]) id⟩;have QM:=ia es;have X2:∀u∈([.int .i64 t,f]:iO),u.oneCell'=true:=by intro u Q;simp at Q;rcases Q with rfl|rfl;rfl;exact hf
 have U0:=yd es o;generalize hq:es.length=q at To hi hle QM P hc;have c:(q:Int)+1<=1000001:=by omega
 have c:IntKind.i64.wrap ((q:Int)+1)=(q:Int)+1:=nS (by omega) (by omega);have c:IntKind.i64.wrap ((i:Int)+1)=(i:Int)+1:=nS (by omega) (by omega);have wn:IntKind.i64.wrap ((q:Int)+1-(i:Int))=((q+1-i:Nat):Int):=by rw[nS (by omega) (by omega)];omega
 have c:∀w,(Instr.sliceAt 100 (.slice (some ⟨E,off,none⟩) q m) (some (.int .i64 i)) none none).events prog w #[]=#[]:=λw=>(l6 w rfl hi hle).2;by_cases c:i=q
 .have c1:((i:Int)==(q:Int))=true:=by simp;omega
  have e:i<=q/\q<=i:=⟨hi,pK c.symm⟩;clear c;have c:es.take i++(t,f)::es.drop i=es++[(t,f)]:=by rw[List.take_of_length_le (by omega),List.drop_of_length_le (by omega)]
  refine F.cF ?_;refine F.aJ ?_;refine F.dA ?_;iterate 3 (refine F.oq rfl rfl rfl (λ_=>by first|(simp[go_sem];done)|simp[go_sem,Instr.makeInterface,Instr.makeFunc, *]) λd K A=>?_;go_simp;refine A _ ?_;clear A K d;try walk_nrm)
  refine F.dA ?_;iterate 3 (refine F.aJ ?_)
  refine F.es ?_;refine F.cF ?_;iterate 2 (refine F.aJ ?_)
  refine F.re ?_;refine F.cf rfl ?_;refine F.sk ?_;refine F.cF ?_;iterate 3 (refine F.aJ ?_)
  refine F.es ?_;refine F.cF ?_;iterate 3 (refine F.aJ ?_)
  refine F.re ?_;refine F.ct rfl ?_;refine F.cF ?_;iterate 2 (refine F.aJ ?_)
  refine F.BQ rfl rfl (by decide) (.tmp 23) (.tmp 24) rfl (N:=N) (nb:=T) (v:=.slice (some ⟨E,off,none⟩) q m) (es:=es) (t:=t) (f:=f) (by omega) hN rfl rfl P (Tr 0 _ rfl) (Tr 1 _ rfl) hf (λH wr h=>U H wr (Option.some.inj h)) S ?_;intro v' w' ho hg hb;try walk_nrm
  refine F.aJ ?_;refine F.tC func60 ?_;refine hc _ _ ⟨by simp_all,?_,λg h=>?_⟩
  .have:=Kp.grown hg;simpa [cw,Value.ownBlock]using this
  .rw[bS]at h;rcases hb with y|y
   .exact .inl (Option.some.inj (h.symm.trans y))
   simp_all
 have c1:((i:Int)==(q:Int))=false:=by simp;omega
 have c:(m=i)=False:=by simp;omega
 have c:i<q:=by omega
 have hpn:i+(q+1-i)=q+1:=by omega
 have Xw:=IP o hf i t;have c:(i:Int)<=(m:Int):=by omega
 have c:i<=m:=by omega
 have c:∀w,(Builtin.cap_ #[100] 3 #[.slice (some ⟨E,off,none⟩) q m]).events prog w #[]=#[]:=λw=>by rfl
 have c:((i:Int)+1).toNat=i+1:=by omega
 have c:((q:Int)+1).toNat=q+1:=by omega
 have ip:(0:Int)<=(i:Int)+1:=by omega
 have c:(0:Int)<=(q:Int)+1:=by omega
 have c:(i:Int)<=(q:Int):=by omega
 have c:(i:Int)+1<=(q:Int)+1:=by omega
 have ZR:((flat es).take (2*i)).length=2*i:=by simp;omega
 have Uy:((flat es).drop (2*i)).length=2*(q-i):=by simp;omega
 have Qj:∀j u,((flat es).drop (2*i))[j]? =some u->M[off+i*2+j]? =some u:=λj u Q=>by
  grind
 have KM:∀u∈(flat es).drop (2*i),u.oneCell'=true:=λu Q=>U0 u (DV Q);refine F.cF ?_;refine F.aJ ?_;refine F.dA ?_;iterate 3 (refine F.oq rfl rfl rfl (λ_=>by first|(simp[go_sem];done)|simp[go_sem,Instr.makeInterface,Instr.makeFunc, *]) λd K A=>?_;go_simp;refine A _ ?_;clear A K d;try walk_nrm)
 refine F.dA ?_;iterate 3 (refine F.aJ ?_)
 refine F.es ?_;refine F.cF ?_;iterate 2 (refine F.aJ ?_)
 refine F.re ?_;refine F.cf rfl ?_;refine F.sk ?_;refine F.cF ?_;iterate 3 (refine F.aJ ?_)
 refine F.es ?_;refine F.cF ?_;iterate 3 (refine F.aJ ?_)
 refine F.re ?_;refine F.cf rfl ?_;refine F.sk ?_;refine F.sq ?_;refine F.cF ?_;iterate 6 (refine F.oq rfl rfl rfl (λ_=>by first|(simp[go_sem];done)|simp[go_sem,Instr.makeInterface,Instr.makeFunc, *]) λd K A=>?_;go_simp;refine A _ ?_;clear A K d;try walk_nrm)
 refine F.re ?_;by_cases c:q+1<=m
 .have c3:((m:Int)<(q:Int)+1)=False:=by simp;omega
  have e:(q:Int)+1<=(m:Int):=by omega
  have e:(m=i+1)=False:=by simp;omega
  have UN:(i:Int)<=(q:Int)+1:=by omega
  have Qs:q+1-(i+1)=q-i:=by omega
  have e:∀w,(Instr.sliceAt 100 (.slice (some ⟨E,off,none⟩) q m) none (some (.int .i64 ((q:Int)+1))) none).events prog w #[]=#[]:=λw=>(Ki w (L:=q+1) (by omega) c).2;have c:∀w,(Instr.sliceAt 100 (.slice (some ⟨E,off,none⟩) (q+1) m) (some (.int .i64 ((i:Int)+1))) none none).events prog w #[]=#[]:=λw=>(l6 w (L:=i+1) (by omega) (by omega) (by omega)).2;have c:∀w,(Instr.sliceAt 100 (.slice (some ⟨E,off,none⟩) (q+1) m) (some (.int .i64 i)) none none).events prog w #[]=#[]:=λw=>(l6 w rfl (by omega) (by omega)).2;simp only[c3,decide_false];refine F.cf rfl ?_;refine F.sk ?_;refine F.cF ?_;iterate 6 (refine F.oq rfl rfl rfl (λ_=>by first|(simp[go_sem];done)|simp[go_sem,Instr.makeInterface,Instr.makeFunc, *]) λd K A=>?_;go_simp;refine A _ ?_;clear A K d;try walk_nrm)
  refine F.es ?_;refine F.cF ?_;iterate 6 (refine F.oq rfl rfl rfl (λ_=>by first|(simp[go_sem];done)|simp[go_sem,Instr.makeInterface,Instr.makeFunc, *]) λd K A=>?_;go_simp;refine A _ ?_;clear A K d;try walk_nrm)
  refine F.apart rfl rfl (by decide) (.tmp 61) (.tmp 66) rfl (nb:=T) (E:=E) rfl rfl Z I qM (by omega) ?_;try walk_nrm
  refine F.oq rfl rfl rfl (λ_=>by rfl) λd K A=>?_;go_simp;refine A _ ?_;clear A K d;try walk_nrm
  refine F.re ?_;refine F.ct rfl ?_;refine F.sq ?_;refine F.yw (γ:=Unit) (n:=9) mixed [[],[],[],[1,2],[0,3],[],[],[5,6],[4,7]] rfl (by kernel_rfl) (λb g=>[(69,dB (b 0) (.slice (some ⟨E,off,none⟩) (q+1) m) (undef)),(70,dB (b 1) (.int .i64 i) (undef)),(71,dB (b 2) (.int .i64 1) (undef)),(72,dB (b 3) (.int .i64 ((i:Int)+1)) (undef)),(73,dB (b 4) (.slice (some ⟨E,off+(i+1)*2,none⟩) (q-i) (m-(i+1))) (undef)),(74,dB (b 5) (.slice (some ⟨E,off,none⟩) (q+1) m) (undef)),(75,dB (b 6) (.int .i64 i) (undef)),(76,dB (b 7) (.slice (some ⟨E,off+i*2,none⟩) (q+1-i) (m-i)) (undef)),(77,dB (b 8) (.int .i64 ((q-i:Nat):Int)) (undef))]) (λb g w=>(b 8=false->w=J)/\(b 8=true->(J.setRow E (pP M (off+(i+1)*2) ((flat es).drop (2*i)))=w))) (()) (by simp only[pu,Nat.reduceAdd,Nat.reduceEqDiff,reduceIte]) (⟨λ_=>rfl,λh=>by cases h⟩) (all_cons ?_ (all_cons ?_ (all_cons ?_ (all_cons ?_ (all_cons ?_ (all_cons ?_ (all_cons ?_ (all_cons ?_ (all_cons ?_ (all_nil)))))))))) ?_
  .intro b g w C l a x rest D p;obtain⟨n,z⟩:=C;replace a:b 0=false:=a;have gD:=dy (l 4 0 rfl) a;have dG:=dy (l 8 4 rfl) gD;have r:=(n dG).symm;subst r;simp only[gD,dG,a,pu,Nat.reduceAdd,Nat.reduceEqDiff,reduceIte];refine F.aJ ?_;have k:=p g _ ⟨λ_=>rfl,λh=>no dG h⟩;simp only[gD,dG,a,pu,Nat.reduceAdd,Nat.reduceEqDiff,reduceIte]at k;exact k
  .intro b g w C l a x rest D p;obtain⟨n,z⟩:=C;replace a:b 1=false:=a;have Yl:=dy (l 3 1 rfl) a;have gD:=dy (l 4 3 rfl) Yl;have dG:=dy (l 8 4 rfl) gD;have r:=(n dG).symm;subst r;simp only[Yl,gD,dG,a,pu,Nat.reduceAdd,Nat.reduceEqDiff,reduceIte];refine F.aJ ?_;have k:=p g _ ⟨λ_=>rfl,λh=>no dG h⟩;simp only[Yl,gD,dG,a,pu,Nat.reduceAdd,Nat.reduceEqDiff,reduceIte]at k;exact k
  .intro b g w C l a x rest D p;obtain⟨n,z⟩:=C;replace a:b 2=false:=a;have Yl:=dy (l 3 2 rfl) a;have gD:=dy (l 4 3 rfl) Yl;have dG:=dy (l 8 4 rfl) gD;have r:=(n dG).symm;subst r;simp only[Yl,gD,dG,a,pu,Nat.reduceAdd,Nat.reduceEqDiff,reduceIte];refine F.aJ ?_;have k:=p g _ ⟨λ_=>rfl,λh=>no dG h⟩;simp only[Yl,gD,dG,a,pu,Nat.reduceAdd,Nat.reduceEqDiff,reduceIte]at k;exact k
  .intro b g w C l a x rest D p;obtain⟨n,z⟩:=C;replace a:b 3=false:=a;have d1:=x 1 rfl;have d2:=x 2 rfl;have gD:=dy (l 4 3 rfl) a;have dG:=dy (l 8 4 rfl) gD;have r:=(n dG).symm;subst r;simp only[d1,d2,gD,dG,a,pu,Nat.reduceAdd,Nat.reduceEqDiff,reduceIte];refine F.aJ ?_;have k:=p g _ ⟨λ_=>rfl,λh=>no dG h⟩;simp only[d1,d2,gD,dG,a,pu,Nat.reduceAdd,Nat.reduceEqDiff,reduceIte]at k;exact k
  .intro b g w C l a x rest D p;obtain⟨n,z⟩:=C;replace a:b 4=false:=a;have d0:=x 0 rfl;have d3:=x 3 rfl;have dG:=dy (l 8 4 rfl) a;have r:=(n dG).symm;subst r;simp only[d0,d3,dG,a,pu,Nat.reduceAdd,Nat.reduceEqDiff,reduceIte];refine F.oq rfl rfl rfl (λ_=>by first|(simp[go_sem];done)|simp[go_sem,Instr.makeInterface,Instr.makeFunc, *]) λd K A=>?_;go_simp;refine A _ ?_;clear A K d;try walk_nrm
   have k:=p g _ ⟨λ_=>rfl,λh=>no dG h⟩;simp only[d0,d3,dG,a,pu,Nat.reduceAdd,Nat.reduceEqDiff,reduceIte]at k;exact k
  .intro b g w C l a x rest D p;obtain⟨n,z⟩:=C;replace a:b 5=false:=a;have vN:=dy (l 7 5 rfl) a;have dG:=dy (l 8 7 rfl) vN;have r:=(n dG).symm;subst r;simp only[vN,dG,a,pu,Nat.reduceAdd,Nat.reduceEqDiff,reduceIte];refine F.aJ ?_;have k:=p g _ ⟨λ_=>rfl,λh=>no dG h⟩;simp only[vN,dG,a,pu,Nat.reduceAdd,Nat.reduceEqDiff,reduceIte]at k;exact k
  .intro b g w C l a x rest D p;obtain⟨n,z⟩:=C;replace a:b 6=false:=a;have vN:=dy (l 7 6 rfl) a;have dG:=dy (l 8 7 rfl) vN;have r:=(n dG).symm;subst r;simp only[vN,dG,a,pu,Nat.reduceAdd,Nat.reduceEqDiff,reduceIte];refine F.aJ ?_;have k:=p g _ ⟨λ_=>rfl,λh=>no dG h⟩;simp only[vN,dG,a,pu,Nat.reduceAdd,Nat.reduceEqDiff,reduceIte]at k;exact k
  .intro b g w C l a x rest D p;obtain⟨n,z⟩:=C;replace a:b 7=false:=a;have d5:=x 5 rfl;have d6:=x 6 rfl;have dG:=dy (l 8 7 rfl) a;have r:=(n dG).symm;subst r;simp only[d5,d6,dG,a,pu,Nat.reduceAdd,Nat.reduceEqDiff,reduceIte];refine F.oq rfl rfl rfl (λ_=>by first|(simp[go_sem];done)|simp[go_sem,Instr.makeInterface,Instr.makeFunc, *]) λd K A=>?_;go_simp;refine A _ ?_;clear A K d;try walk_nrm
   have k:=p g _ ⟨λ_=>rfl,λh=>no dG h⟩;simp only[d5,d6,dG,a,pu,Nat.reduceAdd,Nat.reduceEqDiff,reduceIte]at k;exact k
  .intro b g w C l a x rest D p;obtain⟨n,z⟩:=C;replace a:b 8=false:=a;have d4:=x 4 rfl;have d7:=x 7 rfl;have r:=(n a).symm;subst r;simp only[d4,d7,a,pu,Nat.reduceAdd,Nat.reduceEqDiff,reduceIte];refine F.BH rfl rfl (by decide) (.tmp 73) (.tmp 76) rfl (E:=E) (p:=off+(i+1)*2) (n:=q-i) (vs:=(flat es).drop (2*i)) (bb:=⟨E,off+i*2,none⟩) rfl rfl I (Nat.min_eq_right (by omega)).symm Uy (by omega) (oA I Qj) KM U (λH h=>U H false h) XV ?_;intro w3 V;try walk_nrm
   have k:=p g _ ⟨λh=>by simp[tick]at h,λ_=>V⟩;simp only[d4,d7,a,pu,Nat.reduceAdd,Nat.reduceEqDiff,reduceIte]at k;exact k
  intro b g w C o;obtain⟨n,z⟩:=C;simp only[o 0 (by decide),o 1 (by decide),o 2 (by decide),o 3 (by decide),o 4 (by decide),o 5 (by decide),o 6 (by decide),o 7 (by decide),o 8 (by decide),pu,Nat.reduceAdd,Nat.reduceEqDiff,reduceIte];have L:=z (o 8 (by decide));have s1:(pP M (off+(i+1)*2) ((flat es).drop (2*i))).size=M.size:=jL (by omega);have X:w.heap[E]? =some (.cells (pP M (off+(i+1)*2) ((flat es).drop (2*i))) 128 (0,0)):=by rw[<-L];exact setRow_heap J E _ _ 128 _ I
  have Y:w.heap[T]? =some (.cells #[.int .i64 t,f] tb (0,0)):=by rw[<-L,setRow_other _ E T _ qM];exact Z
  have c:w.heap.size=J.heap.size:=by rw[<-L];simp
  refine F.dA ?_;iterate 4 (refine F.oq rfl rfl rfl (λ_=>by first|(simp[go_sem];done)|simp[go_sem,Instr.makeInterface,Instr.makeFunc, *]) λd K A=>?_;go_simp;refine A _ ?_;clear A K d;try walk_nrm)
  refine F.BH rfl rfl (by decide) (.tmp 80) (.tmp 81) rfl (E:=E) (p:=off+i*2) (n:=1) (vs:=[.int .i64 t,f]) (bb:=⟨T,0,none⟩) rfl rfl X (Nat.min_eq_left (by omega)).symm rfl (by grind) (rT Y) X2 U S (by grind) ?_;intro w2 R;try walk_nrm
  refine F.dA ?_;iterate 2 (refine F.aJ ?_)
  refine F.tC func60 ?_;have OH:w2.heap[E]? =some (.cells (pP (pP M (off+(i+1)*2) ((flat es).drop (2*i))) (off+i*2) [.int .i64 t,f]) 128 (0,0)):=by rw[<-R];exact setRow_heap w E _ _ 128 _ X
  refine hc _ _ ⟨⟨Xw,.inr ⟨E,off,m,_,by rw[qL es i t f (by omega),hq];rfl,by grind,hE,OH,?_,λj u Q=>?_⟩⟩,?_,λg hg=>?_⟩
  .rw[jL (by grind),s1];exact VC
  .rw[yf]at Q;exact Bh (R:=M) (o:=off) (i:=i) (q:=q) QM (by omega) rfl (by omega) (λj u hj Q=>Qb j u Q) (.inr ⟨rfl,rfl⟩) j u Q
  .have k1:Kp [E] J w:=L▸Kp.setRow J E _;exact k1.pX (R▸Kp.setRow w E _) (by simp) (by simp)
  .rw[bS]at hg;simp[Value.ownBlock]at hg;omega
 have c3:((m:Int)<(q:Int)+1)=True:=by simp;omega
 have c:∀w,(Instr.sliceAt 100 (.slice (some ⟨E,off,none⟩) q m) none (some (.int .i64 i)) none).events prog w #[]=#[]:=λw=>(Ki w rfl (by omega)).2;simp only[c3,decide_true];refine F.ct rfl ?_;refine F.cF ?_;iterate 8 (refine F.oq rfl rfl rfl (λ_=>by first|(simp[go_sem];done)|simp[go_sem,Instr.makeInterface,Instr.makeFunc, *]) λd K A=>?_;go_simp;refine A _ ?_;clear A K d;try walk_nrm)
 refine F.JM rfl rfl (by decide) (.tmp 34) (.tmp 39) rfl (p:=i) (n:=q+1-i) (xs:=(flat es).take (2*i)) rfl rfl I ZR (λj u Q=>Qb j u (by grind)) (by omega) (by omega) (by omega) (λH h=>U H false h) ?_;intro c' rs w1 I9 c L;rw[hpn]at I9 ⊢;try walk_nrm
 generalize CH:J.heap.size=O at XV U6 W hN hc ⊢;have X:w1.heap[O]? =some (.cells (((flat es).take (2*i)).toArray++rs) 128 (0,0)):=by subst L;rw[<-CH];exact ny (w:=J) rfl rfl
 have QV:w1.heap[E]? =some (.cells M 128 (0,0)):=by subst L;rw[Below.heap_alloc _ _ _ (by omega)];exact I
 have Y:w1.heap[T]? =some (.cells #[.int .i64 t,f] tb (0,0)):=by subst L;rw[Below.heap_alloc _ _ _ (by omega)];exact Z
 have T8:w1.heap.size=O+1:=by subst L;simp[CH]
 have c:(c'=i)=False:=by simp;omega
 have c:(c'=i+1)=False:=by simp;omega
 have c:∀w,(Instr.sliceAt 100 (.slice (some ⟨O,0,none⟩) (q+1) c') (some (.int .i64 i)) none none).events prog w #[]=#[]:=λw=>(l6 w rfl (by omega) (by omega)).2;have c:∀w,(Instr.sliceAt 100 (.slice (some ⟨O,0,none⟩) (q+1) c') (some (.int .i64 ((i:Int)+1))) none none).events prog w #[]=#[]:=λw=>(l6 w (L:=i+1) (by omega) (by omega) (by omega)).2;have UN:(i:Int)<=(q:Int)+1:=by omega
 have c:(i:Int)+1<=((q+1:Nat):Int):=by omega
 refine F.aJ ?_;refine F.dA ?_;iterate 4 (refine F.oq rfl rfl rfl (λ_=>by first|(simp[go_sem];done)|simp[go_sem,Instr.makeInterface,Instr.makeFunc, *]) λd K A=>?_;go_simp;refine A _ ?_;clear A K d;try walk_nrm)
 refine F.BH rfl rfl (by decide) (.tmp 43) (.tmp 44) rfl (E:=O) (p:=i*2) (n:=1) (vs:=[.int .i64 t,f]) (bb:=⟨T,0,none⟩) rfl rfl X (Nat.min_eq_left (by omega)).symm rfl (by grind) (rT Y) X2 (λH wr h=>W H wr (by omega)) S (by grind) ?_;intro w2 R;try walk_nrm
 have T9:(pP (((flat es).take (2*i)).toArray++rs) (i*2) [.int .i64 t,f]).size=(((flat es).take (2*i)).toArray++rs).size:=jL (by grind);have Tb:(((flat es).take (2*i)).toArray++rs).size=2*c':=by grind
 have OH:w2.heap[O]? =some (.cells (pP (((flat es).take (2*i)).toArray++rs) (i*2) [.int .i64 t,f]) 128 (0,0)):=by rw[<-R];exact setRow_heap w1 O _ _ 128 _ X
 have QU:w2.heap[E]? =some (.cells M 128 (0,0)):=by rw[<-R,setRow_other _ O E _ (by omega)];exact QV
 have c:w2.heap.size=O+1:=by rw[<-R];simp[T8]
 have Qs:q+1-(i+1)=q-i:=by omega
 refine F.es ?_;refine F.yw (γ:=Unit) (n:=9) mixed [[],[],[],[1,2],[0,3],[],[],[5,6],[4,7]] rfl (by kernel_rfl) (λb g=>[(46,dB (b 0) (.slice (some ⟨O,0,none⟩) (q+1) c') (undef)),(47,dB (b 1) (.int .i64 i) (undef)),(48,dB (b 2) (.int .i64 1) (undef)),(49,dB (b 3) (.int .i64 ((i:Int)+1)) (undef)),(50,dB (b 4) (.slice (some ⟨O,(i+1)*2,none⟩) (q-i) (c'-(i+1))) (undef)),(51,dB (b 5) (.slice (some ⟨E,off,none⟩) q m) (undef)),(52,dB (b 6) (.int .i64 i) (undef)),(53,dB (b 7) (.slice (some ⟨E,off+i*2,none⟩) (q-i) (m-i)) (undef)),(54,dB (b 8) (.int .i64 ((q-i:Nat):Int)) (undef))]) (λb g w=>(b 8=false->w=w2)/\(b 8=true->(w2.setRow O (pP (pP (((flat es).take (2*i)).toArray++rs) (i*2) [.int .i64 t,f]) ((i+1)*2) ((flat es).drop (2*i)))=w))) (()) (by simp only[pu,Nat.reduceAdd,Nat.reduceEqDiff,reduceIte]) (⟨λ_=>rfl,λh=>by cases h⟩) (all_cons ?_ (all_cons ?_ (all_cons ?_ (all_cons ?_ (all_cons ?_ (all_cons ?_ (all_cons ?_ (all_cons ?_ (all_cons ?_ (all_nil)))))))))) ?_
 .intro b g w C l a x rest D p;obtain⟨n,z⟩:=C;replace a:b 0=false:=a;have gD:=dy (l 4 0 rfl) a;have dG:=dy (l 8 4 rfl) gD;have r:=(n dG).symm;subst r;simp only[gD,dG,a,pu,Nat.reduceAdd,Nat.reduceEqDiff,reduceIte];refine F.aJ ?_;have k:=p g _ ⟨λ_=>rfl,λh=>no dG h⟩;simp only[gD,dG,a,pu,Nat.reduceAdd,Nat.reduceEqDiff,reduceIte]at k;exact k
 .intro b g w C l a x rest D p;obtain⟨n,z⟩:=C;replace a:b 1=false:=a;have Yl:=dy (l 3 1 rfl) a;have gD:=dy (l 4 3 rfl) Yl;have dG:=dy (l 8 4 rfl) gD;have r:=(n dG).symm;subst r;simp only[Yl,gD,dG,a,pu,Nat.reduceAdd,Nat.reduceEqDiff,reduceIte];refine F.aJ ?_;have k:=p g _ ⟨λ_=>rfl,λh=>no dG h⟩;simp only[Yl,gD,dG,a,pu,Nat.reduceAdd,Nat.reduceEqDiff,reduceIte]at k;exact k
 .intro b g w C l a x rest D p;obtain⟨n,z⟩:=C;replace a:b 2=false:=a;have Yl:=dy (l 3 2 rfl) a;have gD:=dy (l 4 3 rfl) Yl;have dG:=dy (l 8 4 rfl) gD;have r:=(n dG).symm;subst r;simp only[Yl,gD,dG,a,pu,Nat.reduceAdd,Nat.reduceEqDiff,reduceIte];refine F.aJ ?_;have k:=p g _ ⟨λ_=>rfl,λh=>no dG h⟩;simp only[Yl,gD,dG,a,pu,Nat.reduceAdd,Nat.reduceEqDiff,reduceIte]at k;exact k
 .intro b g w C l a x rest D p;obtain⟨n,z⟩:=C;replace a:b 3=false:=a;have d1:=x 1 rfl;have d2:=x 2 rfl;have gD:=dy (l 4 3 rfl) a;have dG:=dy (l 8 4 rfl) gD;have r:=(n dG).symm;subst r;simp only[d1,d2,gD,dG,a,pu,Nat.reduceAdd,Nat.reduceEqDiff,reduceIte];refine F.aJ ?_;have k:=p g _ ⟨λ_=>rfl,λh=>no dG h⟩;simp only[d1,d2,gD,dG,a,pu,Nat.reduceAdd,Nat.reduceEqDiff,reduceIte]at k;exact k
 .intro b g w C l a x rest D p;obtain⟨n,z⟩:=C;replace a:b 4=false:=a;have d0:=x 0 rfl;have d3:=x 3 rfl;have dG:=dy (l 8 4 rfl) a;have r:=(n dG).symm;subst r;simp only[d0,d3,dG,a,pu,Nat.reduceAdd,Nat.reduceEqDiff,reduceIte];refine F.oq rfl rfl rfl (λ_=>by first|(simp[go_sem];done)|simp[go_sem,Instr.makeInterface,Instr.makeFunc, *]) λd K A=>?_;go_simp;refine A _ ?_;clear A K d;try walk_nrm
  have k:=p g _ ⟨λ_=>rfl,λh=>no dG h⟩;simp only[d0,d3,dG,a,pu,Nat.reduceAdd,Nat.reduceEqDiff,reduceIte]at k;exact k
 .intro b g w C l a x rest D p;obtain⟨n,z⟩:=C;replace a:b 5=false:=a;have vN:=dy (l 7 5 rfl) a;have dG:=dy (l 8 7 rfl) vN;have r:=(n dG).symm;subst r;simp only[vN,dG,a,pu,Nat.reduceAdd,Nat.reduceEqDiff,reduceIte];refine F.aJ ?_;have k:=p g _ ⟨λ_=>rfl,λh=>no dG h⟩;simp only[vN,dG,a,pu,Nat.reduceAdd,Nat.reduceEqDiff,reduceIte]at k;exact k
 .intro b g w C l a x rest D p;obtain⟨n,z⟩:=C;replace a:b 6=false:=a;have vN:=dy (l 7 6 rfl) a;have dG:=dy (l 8 7 rfl) vN;have r:=(n dG).symm;subst r;simp only[vN,dG,a,pu,Nat.reduceAdd,Nat.reduceEqDiff,reduceIte];refine F.aJ ?_;have k:=p g _ ⟨λ_=>rfl,λh=>no dG h⟩;simp only[vN,dG,a,pu,Nat.reduceAdd,Nat.reduceEqDiff,reduceIte]at k;exact k
 .intro b g w C l a x rest D p;obtain⟨n,z⟩:=C;replace a:b 7=false:=a;have d5:=x 5 rfl;have d6:=x 6 rfl;have dG:=dy (l 8 7 rfl) a;have r:=(n dG).symm;subst r;simp only[d5,d6,dG,a,pu,Nat.reduceAdd,Nat.reduceEqDiff,reduceIte];refine F.oq rfl rfl rfl (λ_=>by first|(simp[go_sem];done)|simp[go_sem,Instr.makeInterface,Instr.makeFunc, *]) λd K A=>?_;go_simp;refine A _ ?_;clear A K d;try walk_nrm
  have k:=p g _ ⟨λ_=>rfl,λh=>no dG h⟩;simp only[d5,d6,dG,a,pu,Nat.reduceAdd,Nat.reduceEqDiff,reduceIte]at k;exact k
 .intro b g w C l a x rest D p;obtain⟨n,z⟩:=C;replace a:b 8=false:=a;have d4:=x 4 rfl;have d7:=x 7 rfl;have r:=(n a).symm;subst r;simp only[d4,d7,a,pu,Nat.reduceAdd,Nat.reduceEqDiff,reduceIte];refine F.BH rfl rfl (by decide) (.tmp 50) (.tmp 53) rfl (E:=O) (p:=(i+1)*2) (n:=q-i) (vs:=(flat es).drop (2*i)) (bb:=⟨E,off+i*2,none⟩) rfl rfl OH (Nat.min_self _).symm Uy (by omega) (oA QU Qj) KM (λH wr h=>W H wr (by omega)) (λH h=>U H false h) (by grind) ?_;intro w3 V;try walk_nrm
  have k:=p g _ ⟨λh=>by simp[tick]at h,λ_=>V⟩;simp only[d4,d7,a,pu,Nat.reduceAdd,Nat.reduceEqDiff,reduceIte]at k;exact k
 intro b g w C o;obtain⟨n,z⟩:=C;simp only[o 0 (by decide),o 1 (by decide),o 2 (by decide),o 3 (by decide),o 4 (by decide),o 5 (by decide),o 6 (by decide),o 7 (by decide),o 8 (by decide),pu,Nat.reduceAdd,Nat.reduceEqDiff,reduceIte];have V:=z (o 8 (by decide));refine F.dA ?_;iterate 2 (refine F.aJ ?_)
 refine F.tC func60 ?_;have b:w.heap[O]? =some (.cells (pP (pP (((flat es).take (2*i)).toArray++rs) (i*2) [.int .i64 t,f]) ((i+1)*2) ((flat es).drop (2*i))) 128 (0,0)):=by rw[<-V];exact setRow_heap w2 O _ _ 128 _ OH
 refine hc _ _ ⟨⟨Xw,.inr ⟨O,0,c',_,by rw[qL es i t f (by omega),hq];rfl,by grind,hN,b,?_,λj u Q=>?_⟩⟩,?_,λg hg=>?_⟩
 .rw[jL (by omega),T9,Tb];omega
 .rw[yf]at Q;refine Bh (R:=((flat es).take (2*i)).toArray++rs) (R1:=pP (((flat es).take (2*i)).toArray++rs) (i*2) [.int .i64 t,f]) (o:=0) (i:=i) (q:=q) QM (by omega) rfl (by omega) (λj u hj Q=>?_) (.inl ⟨by simp,by simp⟩) j u Q;grind
 .have k1:Kp [E] J w1:=Kp.alloc L;have b:Kp [E] J w2:=k1.pX (R▸Kp.setRow w1 O _) (by simp;omega) (by simp);exact b.pX (V▸Kp.setRow w2 O _) (by simp;omega) (by simp)
 .rw[bS]at hg;simp[Value.ownBlock]at hg;omega
structure iM(es:jl)(t:Int)(i:Nat):Prop where
 gt:∀j e,i<=j->es[j]? =some e->t<e.1
 le:∀e,0<i->es[i-1]? =some e->e.1<=t
def IE(f:Func):Code:=match f.body with|some (.seq _ (.seq (.block _ (.loop b)) _))=>b|_=>.skip
def Ml(f:Func):Code:=match f.body with|some (.seq _ (.seq _ r))=>r|_=>.skip
theorem Br:∀(es:jl)(j:Nat),j<es.length->(flat es)[2*j]? =some (.int .i64 (es.getD j (0,.nilFunc)).1)
 |e::es,0,_=>rfl
 |e::es,j+1,h=>by
  have a:=Br es j (by simp_all);rw[show 2*(j+1)=2*j+1+1 by omega];simpa [flat]using a
theorem P6(w:aj)(h:p<q):(Instr.indexAt 100 (.slice (some ⟨E,off,none⟩) q m) (.int .i64 (p:Int))).events prog w #[]=#[]:=by
 obtain⟨inf,z,b,a,a,c,c⟩:=lO;have c:(p:Int)<(q:Int):=by omega
 simp[Instr.indexAt,run_underlying dZ,Instr.index,asInt,asIntOf,sizeOf,typeInfo,b,a,h,c]
theorem EW{Ψ:gi}(F:aB prog B (DX s) Ψ)(A:Nat)(t:Int)(fv:ay)(w0:aj){b:eP}(To:q<1000000)(hb:0<q->b=some ⟨E,off,none⟩)(TG:w0.cell? ⟨A,1,none⟩=some (.slice b q m))(b:s ⟨A,1,none⟩ false)(ts:Nat->Int)(hx:∀j,j<q->w0.cell? ⟨E,off+j*2,none⟩=some (.int .i64 (ts j))/\s ⟨E,off+j*2,none⟩ false)(c:aC)(b:cO)(hk:∀i:Nat,i<=q->(∀j,i<=j->j<q->t<ts j)->(0<i->¬t<ts (i-1))->∀y3 y4 y5 y7 y8 y9 Z Y X W V U T S R Q P O N M L J I H D C y v u r o n l k h g f a:Value,Ψ (G ((base 49).at ⟨List.toArray (.pointer (some ⟨A,0,none⟩)::.int .i64 t::fv::y3::y4::y5::.int .i64 (i:Int)::y7::y8::y9::Z::Y::X::W::V::U::T::S::R::Q::P::O::N::M::L::J::I::H::D::C::y::v::u::r::o::n::l::k::h::g::f::a::[]),[]⟩ [.code (Ml f49)]) (c::b)) w0):
 ∀p:Nat,p<=q->(∀j,p<=j->j<q->t<ts j)->∀y3 y4 y5 y7 y8 y9 Z Y X W V U T S R Q P O N M L J I H D C y v u r o n l k h g f a:Value,Ψ (G ((base 49).at ⟨List.toArray (.pointer (some ⟨A,0,none⟩)::.int .i64 t::fv::y3::y4::y5::.int .i64 (p:Int)::y7::y8::y9::Z::Y::X::W::V::U::T::S::R::Q::P::O::N::M::L::J::I::H::D::C::y::v::u::r::o::n::l::k::h::g::f::a::[]),[]⟩ [.code (IE f49),.inLoop (IE f49),.inBlock 0,.code (Ml f49)]) (c::b)) w0:=by
 intro p;induction p with
 |zero=>
  intro hp ZI y3 y4 y5 y7 y8 y9 Z Y X W V U T S R Q P O N M L J I H D C y v u r o n l k h g f a;simp only[IE,f49];refine F.sq ?_;refine F.cF ?_;iterate 3 (refine F.aJ ?_)
  refine F.dK ?_;refine F.dK ?_;refine F.dK ?_;refine F.dK ?_;refine F.dK ?_;refine F.dK ?_;refine F.dK ?_;refine F.dK ?_;refine F.dK ?_;refine F.dK ?_;refine F.dK ?_;refine F.aJ ?_;refine F.re ?_;refine F.cf rfl ?_;refine F.ctl (λ_=>stepG_exit rfl) ?_;exact hk 0 hp ZI (λz=>absurd z (by decide)) _ _ _ _ _ _ _ _ _ _ _ _ _ _ _ _ _ _ _ _ _ _ _ _ _ _ _ _ _ _ _ _ _ _ _ _ _ _
 |succ p ih=>
  intro hp ZI y3 y4 y5 y7 y8 y9 Z Y X W V U T S R Q P O N M L J I H D C y v u r o n l k h g f a;obtain⟨Nc,a⟩:=hx p hp;obtain rfl:=hb (by omega);generalize ZZ:ts p=x at Nc;have wp:IntKind.i64.wrap (p:Int)=(p:Int):=nS (by omega) (by omega);have pp:((0:Int)<(p:Int)+1)=True:=propext ⟨λ_=>trivial,λ_=>by omega⟩;have a:(p:Int)<(q:Int):=by omega
  have a:p<q:=hp;rw[show(((p+1:Nat):Int))=(p:Int)+1 from by omega];have b:(p:Int)+1-1=(p:Int):=by omega
  simp only[IE,f49];refine F.sq ?_;refine F.cF ?_;iterate 6 (refine F.aJ ?_)
  refine F.Ym ?_;iterate 2 (refine F.aJ ?_)
  have b:∀w,(Instr.indexAt 100 (.slice (some ⟨E,off,none⟩) q m) (.int .i64 (p:Int))).events prog w #[]=#[]:=λw=>P6 w a;refine F.AZ rfl rfl (by decide) (λd=>by simp[go_sem,b]) (λd K a=>?_);go_simp;refine a _ ?_;clear a K d;try walk_nrm
  refine F.aJ ?_;refine F.Ym ?_;iterate 3 (refine F.aJ ?_)
  refine F.re ?_;by_cases ht:t<x
  .simp only[ht,decide_true];refine F.ct rfl ?_;refine F.sk ?_;refine F.bl ?_;refine F.zA ?_;iterate 3 (refine F.aJ ?_)
   refine F.re ?_;refine F.ib ?_;refine F.ctl (λ_=>stepG_inLoop) ?_;exact ih (Nat.le_of_succ_le hp) (λj a h2=>by rcases Lz a with e|e;subst e;rw[ZZ];exact ht;exact ZI j e h2) _ _ _ _ _ _ _ _ _ _ _ _ _ _ _ _ _ _ _ _ _ _ _ _ _ _ _ _ _ _ _ _ _ _ _ _ _ _
  .simp only[ht,decide_false];refine F.cf rfl ?_;refine F.ctl (λ_=>stepG_exit rfl) ?_;exact hk (p+1) hp ZI (λ_=>by simp_all) _ _ _ _ _ _ _ _ _ _ _ _ _ _ _ _ _ _ _ _ _ _ _ _ _ _ _ _ _ _ _ _ _ _ _ _ _ _
theorem EX(N A:Nat)(t:Int)(fn:Fn)(fst k:gd)(D:ay)(es:jl)(n:aj)(hN:N<=n.heap.size)(lA:A<N)(S:es.length<1000000)(O:fZ N n D es)(l:n.cell? ⟨A,1,none⟩=some D)(G:n.frozen? ⟨A,1,none⟩=false)(okr:s ⟨A,1,none⟩ false)(okw:s ⟨A,1,none⟩ true)(I:∀(a:Addr)(wr:Bool),a.block∈cw D\/n.heap.size<=a.block->s a wr):
 fG prog B (DX s) 49 #[.pointer (some ⟨A,0,none⟩),.int .i64 t,.func fn fst k] n λr L=>r=.tuple #[]/\Kp (cw D) n L [⟨A,1,none⟩]/\∃r i,i<=es.length/\iM es t i/\L.cell? ⟨A,1,none⟩=some r/\L.frozen? ⟨A,1,none⟩=false/\fZ N L r (es.take i++(t,.func fn fst k)::es.drop i)/\∀g∈cw r,g∈cw D\/n.heap.size<=g:=by
 have V:A∉cw D:=λz=>by have:=(O.lt (bS.1 z)).1;omega
 have okF:∀(H:Addr)(wr:Bool),n.heap.size<=H.block->s H wr:=λH wr h=>I H wr (.inr h);obtain⟨b,E,off,m,X,hb,P⟩:∃b E off m,D=.slice b es.length m/\(0<es.length->b=some ⟨E,off,none⟩)/\∀j,j<es.length->n.cell? ⟨E,off+j*2,none⟩=some (.int .i64 (es.getD j (0,.nilFunc)).1)/\s ⟨E,off+j*2,none⟩ false:=by
  rcases O.2 with ⟨rfl,rfl⟩|⟨E,off,m,cur,rfl,r,r,q,r,Qb⟩
  .simp
  .exact⟨_,E,off,m,rfl,λ_=>rfl,λj r=>⟨by rw[oz q,show off+j*2=off+2*j by omega];exact Qb _ _ (Br es j r),I _ _ (.inl (by simp[cw,Value.ownBlock]))⟩⟩
 have q:∀g∈cw D,g<n.heap.size:=λg M=>by obtain⟨_,cur,h⟩:=O.lt (bS.1 M);grind
 intro q F c r hc;have q:n.cell? ⟨A,1,none⟩=some (.slice b es.length m):=X▸l;clear l;simp only[enter_at _ func49 rfl,ntmps49];walk_nrm;refine F.cF ?_;iterate 3 (refine F.aJ ?_)
 refine F.Ym ?_;iterate 2 (refine F.aJ ?_)
 refine F.es ?_;refine F.bl ?_;refine F.ctl (λ_=>stepG_loop) ?_;refine EW F A t (.func fn fst k) n (q:=es.length) S hb q okr (λj=>(es.getD j (0,.nilFunc)).1) P c r ?_ es.length (az _) (λj E r=>by omega) _ _ _ _ _ _ _ _ _ _ _ _ _ _ _ _ _ _ _ _ _ _ _ _ _ _ _ _ _ _ _ _ _ _ _ _ _ _;clear P;intro i hi c b P P P P P P P P P P P P P P P P P P P P P P P P P P P P P P P P P P P P P P;have UT:iM es t i:=⟨λj e E r=>by grind,λe E r=>by simp_all⟩;clear c b;simp only[Ml,f49];have l:=q;clear q;refine F.zA ?_;iterate 4 (refine F.aJ ?_)
 refine F.Ym ?_;iterate 4 (refine F.aJ ?_)
 refine F.GV ?_;generalize f:World.alloc n _=w1;generalize o:(World.heap n).size=n1;have b:=gH f o;replace G:=dP G l f;replace l:=bN l f;have U:=aY (i:=0) f o rfl;have Z:=cy f o 0;have T:=aY (i:=1) f o rfl;have Y:=cy f o 1;try simp only[sS,sW,sV]at U T
 have J:Kp (cw D) n n [⟨A,1,none⟩]:=Kp.refl _;replace J:=J.yT f;have c:fZ N w1 D es:=(Kp.alloc (L:=[]) f).bA O (λg M=>⟨by simp,by simp⟩);have b:w1.heap[n1]? =some (.cells #[.int .i64 t,.func fn fst k] 128 (0,0)):=by rw[<-o];exact ny f rfl
 refine F.uO func60 ?_;refine CE N n1 i t (.func fn fst k) 128 w1 es S hi (by omega) (X▸c) b rfl (λz=>by grind) (λH wr h=>I H wr (X▸h.imp id λh=>by omega)) (λH h=>okF H false (by omega)) _ F _ _ (λv L b=>?_);obtain⟨ho,W,R⟩:=b;rw[<-X]at W R;generalize Y7:es.take i++(t,.func fn fst k)::es.drop i=b at ho hc;rw[bQ];try walk_nrm
 have u:=W.cell _ _ V l;have p:=(W.Rn _ _ V l).trans G;replace J:=J.RY W (λx b=>.inl b);obtain⟨b,b,Uz,b⟩:=id ho.form;have Tp:A∉cw v:=λz=>by grind
 have Q:∀g∈cw v,g∈cw D\/n.heap.size<=g:=λg M=>(R g M).imp id λy=>by omega
 subst Uz;have iL:∀(w:aj)(d:Nat),(w.at d).heap.size=w.heap.size:=λ_ _=>rfl;have size_set:∀(w:aj)(a:Addr)(v:ay),(w.setCell a v).heap.size=w.heap.size:=λw a v=>by simp
 clear l G U T Z Y;iterate 2 (refine F.aJ ?_)
 refine F.op rfl rfl (by decide) (λd K hK=>?_);go_simp;rw[setCell_at'];refine hK _ _ ⟨DX.set _ (by(first|assumption|(apply Hh<;>dsimp only<;>omega))) (λe O=>?_),?_⟩
 .have hm:=mem_listed O;simp[go_sem,storedEv,fD,ig,fE,jc,gP, *]at hm;subst hm;exact .inl ⟨_,rfl,rfl,by(first|assumption|(apply Hh<;>dsimp only<;>omega)),by simp only[iL,size_set];first|omega|exact au (by assumption)⟩
 clear hK K d;try walk_nrm
 generalize C:World.setCell L _ _=a;have a:=lu C;replace p:=eF p C;replace u:=kP u C;replace J:=J.Ch C (by simp);refine F.Du func49 ?_;refine hc _ _ ⟨rfl,J,_,i,hi,UT,u,p,?_,Q⟩;rw[Y7];exact(Kp.H8 C).bA ho (λg M=>⟨by simp,by simp;exact λz=>Tp (z▸M)⟩)
end Go.Proofs.YtobagnjnbmgidaaGreatDoor
