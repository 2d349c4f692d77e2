import Derived.Test.YtobagnjnbmgidaaGreatDoorN1
set_option linter.all false
set_option maxHeartbeats 8000000
set_option maxRecDepth 100000
namespace Go.Proofs.YtobagnjnbmgidaaGreatDoor
open Go.Conc Go.RowKit Tryz
variable{main:Bool}{Ok:Addr→Bool→Prop}
theorem mO(w:World){E off q cap:Nat}{l:Int}{L:Nat}(hl:l=L)(h1:L≤q)(h2:q≤cap):(Instr.sliceAt 100 (.slice (some ⟨E,off,none⟩) q cap) (some (.int .i64 l)) none none).run prog w=.ok (.slice (some (if cap=L then⟨E,off,none⟩ else⟨E,off+L*2,none⟩)) (q-L) (cap-L)) w∧
 (Instr.sliceAt 100 (.slice (some ⟨E,off,none⟩) q cap) (some (.int .i64 l)) none none).events prog w #[]=#[]:=by
 obtain⟨inf,z,i1,i2,i3,i4,i5⟩:=kU;subst hl;have h3:(L:Int)≤(q:Int):=by omega
 constructor
 ·simp[Instr.sliceAt,run_underlying c9,Instr.slice,Instr.sliceBounds,Instr.sliceBound,asInt,asIntOf,sizeOf,typeInfo,i1,i3,h3,h1,Addr.add_lit]
  split<;>rfl
 ·simp[Instr.sliceAt,run_underlying c9,Instr.slice,Instr.sliceBounds,Instr.sliceBound,asInt,asIntOf,sizeOf,typeInfo,i1,i3,h3,h1]
theorem Lj(w:World){b:Addr}{q cap:Nat}{l:Int}{L:Nat}(hl:l=L)(h1:L≤cap):(Instr.sliceAt 100 (.slice (some b) q cap) none (some (.int .i64 l)) none).run prog w=.ok (.slice (some b) L cap) w∧
 (Instr.sliceAt 100 (.slice (some b) q cap) none (some (.int .i64 l)) none).events prog w #[]=#[]:=by
 obtain⟨inf,z,i1,i2,i3,i4,i5⟩:=kU;subst hl;have h3:(L:Int)≤(cap:Int):=by omega
 have h4:b.add 0=b:=by cases b with|mk x y s=>cases s<;>simp[Addr.add]
 constructor
 ·simp[Instr.sliceAt,run_underlying c9,Instr.slice,Instr.sliceBounds,Instr.sliceBound,asInt,asIntOf,sizeOf,typeInfo,i1,i3,h3,h1,h4]
 ·simp[Instr.sliceAt,run_underlying c9,Instr.slice,Instr.sliceBounds,Instr.sliceBound,asInt,asIntOf,sizeOf,typeInfo,i1,i3,h3,h1]
def qR(R:Array Value)(p:Nat)(vs:List Value):Array Value:=(R.toList.take p++vs++R.toList.drop (p+vs.length)).toArray
theorem jX{R:Array Value}{p:Nat}{vs:List Value}(h:p+vs.length≤R.size):(qR R p vs).size=R.size:=qQ R p vs h
theorem B9{R R1 R2:Array Value}{o i q:Nat}{xs nw:List Value}(hx:xs.length=2*q)(hi:i≤q)(hn:nw.length=2)(AW:o+2*(q+1)≤R.size)(h0:∀(j:Nat)(u:Value),j<2*i→xs[j]? =some u→R[o+j]? =some u)(h:(R1=qR R (o+i*2) nw∧R2=qR R1 (o+(i+1)*2) (xs.drop (2*i)))∨(R1=qR R (o+(i+1)*2) (xs.drop (2*i))∧R2=qR R1 (o+i*2) nw)):
 ∀(j:Nat)(u:Value),(xs.take (2*i)++(nw++xs.drop (2*i)))[j]? =some u→R2[o+j]? =some u:=by
 have hd:(xs.drop (2*i)).length=2*q-2*i:=by simp;omega
 have ht:(xs.take (2*i)).length=2*i:=by simp;omega
 intro j u hu
 have key:R2[o+j]? =if j<2*i then R[o+j]? else if j<2*i+2 then nw[j-2*i]? else if j<2*q+2 then(xs.drop (2*i))[j-(2*i+2)]? else R[o+j]? :=by
  rcases h with ⟨rfl,rfl⟩|⟨rfl,rfl⟩
  ·have s1:(qR R (o+i*2) nw).size=R.size:=jX (by omega)
   rw[qR,fq _ _ _ (by rw[s1,hd];omega),hd]
   by_cases c1:j<2*i
   ·rw[if_pos (by omega),if_pos c1,qR,fq _ _ _ (by omega),if_pos (by omega)]
   ·rw[if_neg c1]
    by_cases c2:j<2*i+2
    ·rw[if_pos (by omega),if_pos c2,qR,fq _ _ _ (by omega),if_neg (by omega),if_pos (by omega)]
     congr 1;omega
    ·rw[if_neg (by omega),if_neg c2]
     by_cases c3:j<2*q+2
     ·rw[if_pos (by omega),if_pos c3]
      congr 1;omega
     ·rw[if_neg (by omega),if_neg c3,qR,fq _ _ _ (by omega),if_neg (by omega),if_neg (by omega)]
  ·have s1:(qR R (o+(i+1)*2) (xs.drop (2*i))).size=R.size:=jX (by rw[hd];omega)
   rw[qR,fq _ _ _ (by rw[s1];omega)]
   by_cases c1:j<2*i
   ·rw[if_pos (by omega),if_pos c1,qR,fq _ _ _ (by rw[hd];omega),if_pos (by omega)]
   ·rw[if_neg (by omega),if_neg c1]
    by_cases c2:j<2*i+2
    ·rw[if_pos (by omega),if_pos c2]
     congr 1;omega
    ·rw[if_neg (by omega),if_neg c2,qR,fq _ _ _ (by rw[hd];omega),if_neg (by omega),hd]
     by_cases c3:j<2*q+2
     ·rw[if_pos (by omega),if_pos c3]
      congr 1;omega
     ·rw[if_neg (by omega),if_neg c3]
 rw[key]
 by_cases c1:j<2*i
 ·rw[if_pos c1]
  rw[List.getElem?_append_left (by omega),List.getElem?_take_of_lt c1] at hu;exact h0 j u c1 hu
 ·rw[if_neg c1]
  rw[List.getElem?_append_right (by omega),ht] at hu
  by_cases c2:j<2*i+2
  ·rw[if_pos c2]
   rw[List.getElem?_append_left (by omega)] at hu;exact hu
  ·rw[if_neg c2]
   rw[List.getElem?_append_right (by omega),hn] at hu;have aT:=(List.getElem?_eq_some_iff.1 hu).1;rw[if_pos (by omega),←hu]
   congr 1<;>omega
theorem zg(es:List (Int×Value))(i:Nat)(t:Int)(f:Value):flat (es.take i++(t,f)::es.drop i)=(flat es).take (2*i)++([.int .i64 t,f]++(flat es).drop (2*i)):=by
 rw[mD,vI,show flat ((t,f)::es.drop i)=.int .i64 t::f::flat (es.drop i) from rfl,vJ];rfl
theorem JU{es:List (Int×Value)}(h:∀e∈es,e.2.oneCell'=true){f:Value}(hf:f.oneCell'=true)(i:Nat)(t:Int):∀e∈es.take i++(t,f)::es.drop i,e.2.oneCell'=true:=fun e hm=>by
 rcases List.mem_append.1 hm with h1|h1
 ·exact h e (List.mem_of_mem_take h1)
 ·rcases List.mem_cons.1 h1 with rfl|h1
  ·exact hf
  ·exact h e (List.mem_of_mem_drop h1)
theorem so(es:List (Int×Value))(i:Nat)(t:Int)(f:Value)(h:i≤es.length):(es.take i++(t,f)::es.drop i).length=es.length+1:=by simp;omega
theorem Kp.setRow(w:World)(E:Nat)(cs:Array Value):Kp [E] w (w.setRow E cs):=by
 have:=Kp.grown (v:=.slice (some ⟨E,0,none⟩) 0 0) (w:=w) (w':=w.setRow E cs) ⟨rfl,rfl,rfl,by simp,fun k _ hk=>setRow_other w E k _ (fun e=>hk (by simp[Value.ownBlock,e]))⟩
 simpa [bV,Value.ownBlock] using this
theorem oW{x:Int}(h1:0≤x)(h2:x<100000):IntKind.i64.wrap x=x:=by rw[IntKind.wrap_i64];omega
theorem tF{w:World}{nb:Nat}{t:Int}{f:Value}{tb:TypeId}(h:w.heap[nb]? =some (.cells #[.int .i64 t,f] tb (0,0))):∀j u,([.int .i64 t,f]:List Value)[j]? =some u→w.cell? ((⟨nb,0,none⟩:Addr).add j)=some u:=fun j u hu=>by
 rw[Addr.add_lit,pQ h,Nat.zero_add,List.getElem?_toArray];exact hu
theorem D9(N nb i:Nat)(t:Int)(f:Value)(tb:TypeId)(w0:World)(es:List (Int×Value))(NY:es.length<900)(hi:i≤es.length)(hN:N≤w0.heap.size){E off cap:Nat}{cur:Array Value}(aB:∀e∈es,e.2.oneCell'=true)(hle:es.length≤cap)(hE:N≤E)(jL:w0.heap[E]? =some (.cells cur 128 (0,0)))(kH:off+2*cap≤cur.size)(pF:∀(j:Nat)(u:Value),(flat es)[j]? =some u→cur[off+j]? =some u)(gS:w0.heap[nb]? =some (.cells #[.int .i64 t,f] tb (0,0)))(hf:f.oneCell'=true)(aN:nb≠E)(qj:∀(ad:Addr)(wr:Bool),ad.block=E→Ok ad wr)(rG:∀ad:Addr,ad.block=nb→Ok ad false)(Nv:∀(ad:Addr)(wr:Bool),w0.heap.size≤ad.block→Ok ad wr):
 cj prog main (DX Ok) 60 #[.slice (some ⟨E,off,none⟩) es.length cap,.int .i64 i,.slice (some ⟨nb,0,none⟩) 1 1] w0 fun v' w'=>fU N w' v' (es.take i++(t,f)::es.drop i)∧Kp [E] w0 w'∧∀g∈bV v',g=E∨w0.heap.size≤g:=by
 intro Ψ F c cs hc;have SR:E<w0.heap.size:=(Array.getElem?_eq_some_iff.1 jL).1;have Eb:nb<w0.heap.size:=(Array.getElem?_eq_some_iff.1 gS).1;have SQ:fU N w0 (.slice (some ⟨E,off,none⟩) es.length cap) es:=⟨aB,.inr ⟨E,off,cap,cur,rfl,hle,hE,jL,kH,pF⟩⟩;have zI:=gO es;have PI:=tF gS;have h1c:∀u∈([.int .i64 t,f]:List Value),u.oneCell'=true:=by intro u hu;simp at hu;rcases hu with rfl|rfl;rfl;exact hf
 have rM:=zf es aB;generalize hq:es.length=q at NY hi hle zI SQ hc;rw[enter_at _ func60 rfl];simp only[ntmps60,mV,Nat.reduceAdd,Nat.reduceSub];have q1:(q:Int)+1≤901:=by omega
 have wq:IntKind.i64.wrap ((q:Int)+1)=(q:Int)+1:=oW (by omega) (by omega);have wi:IntKind.i64.wrap ((i:Int)+1)=(i:Int)+1:=oW (by omega) (by omega);have wn:IntKind.i64.wrap ((q:Int)+1-(i:Int))=((q+1-i:Nat):Int):=by rw[oW (by omega) (by omega)];omega
 have e1:∀w,(Instr.sliceAt 100 (.slice (some ⟨E,off,none⟩) q cap) (some (.int .i64 i)) none none).events prog w #[]=#[]:=fun w=>(mO w rfl hi hle).2
 by_cases jD:i=q
 ·have c1:((i:Int)==(q:Int))=true:=by simp;omega
  have aan:i≤q∧q≤i:=⟨hi,Nat.le_of_eq jD.symm⟩;clear jD;have ht:es.take i++(t,f)::es.drop i=es++[(t,f)]:=by rw[List.take_of_length_le (by omega),List.drop_of_length_le (by omega)]
  refine F.bh ?_;refine F.ak ?_;try walk_nrm
  refine F.cI ?_;iterate 3 (refine F.oq rfl rfl rfl (fun _=>by first|(simp[go_sem];done)|simp[go_sem,Instr.makeInterface,Instr.makeFunc, *]) fun d K hK=>?_;go_simp;refine hK _ ?_;clear hK K d;try walk_nrm)
  refine F.cI ?_;iterate 3 (refine F.ak ?_;try walk_nrm)
  refine F.es ?_;refine F.bh ?_;iterate 2 (refine F.ak ?_;try walk_nrm)
  refine F.re ?_;refine F.cf rfl ?_;refine F.sk ?_;refine F.bh ?_;iterate 3 (refine F.ak ?_;try walk_nrm)
  refine F.es ?_;refine F.bh ?_;iterate 3 (refine F.ak ?_;try walk_nrm)
  refine F.re ?_;refine F.ct rfl ?_;refine F.bh ?_;iterate 2 (refine F.ak ?_;try walk_nrm)
  refine F.KS rfl rfl (by decide) (.tmp 23) (.tmp 24) rfl (N:=N) (nb:=nb) (v:=.slice (some ⟨E,off,none⟩) q cap) (es:=es) (t:=t) (f:=f) (by omega) hN rfl rfl SQ (PI 0 _ rfl) (PI 1 _ rfl) hf (fun ad wr h=>qj ad wr (Option.some.inj h)) rG ?_;intro v' w' ho hg hb;try walk_nrm
  refine F.ak ?_;try walk_nrm
  refine F.re ?_;refine F.ctl (fun _=>stepG_ret') ?_;refine F.aF rfl rfl func60 (resultsC_tmp (by rfl) _) ?_;refine hc _ _ ⟨by rw[ht];exact ho,?_,fun g h=>?_⟩
  ·have:=Kp.grown hg
   simpa [bV,Value.ownBlock] using this
  ·rw[br] at h
   rcases hb with y|y
   ·exact .inl (Option.some.inj (h.symm.trans y))
   ·exact .inr (Nat.le_of_eq (Option.some.inj (y.symm.trans h)))
 have c1:((i:Int)==(q:Int))=false:=by simp;omega
 have c2:(cap=i)=False:=by simp;omega
 have aT:i<q:=by omega
 have hpn:i+(q+1-i)=q+1:=by omega
 have ZR:=JU aB hf i t;have ic:(i:Int)≤(cap:Int):=by omega
 have ic':i≤cap:=by omega
 have e5:∀w,(Builtin.cap_ #[100] 3 #[.slice (some ⟨E,off,none⟩) q cap]).events prog w #[]=#[]:=fun w=>by simp[Builtin.cap_]
 have ti:((i:Int)+1).toNat=i+1:=by omega
 have tq:((q:Int)+1).toNat=q+1:=by omega
 have ip:(0:Int)≤(i:Int)+1:=by omega
 have qp:(0:Int)≤(q:Int)+1:=by omega
 have iq1:(i:Int)≤(q:Int):=by omega
 have iq2:(i:Int)+1≤(q:Int)+1:=by omega
 have Cb:((flat es).take (2*i)).length=2*i:=by simp;omega
 have Cc:((flat es).drop (2*i)).length=2*(q-i):=by simp;omega
 have Ry:∀j u,((flat es).drop (2*i))[j]? =some u→cur[off+i*2+j]? =some u:=fun j u hu=>by
  rw[List.getElem?_drop] at hu;rw[show off+i*2+j=off+(2*i+j) by omega];exact pF _ u hu
 have gY:∀u∈(flat es).drop (2*i),u.oneCell'=true:=fun u hu=>rM u (List.mem_of_mem_drop hu)
 refine F.bh ?_;refine F.ak ?_;try walk_nrm
 refine F.cI ?_;iterate 3 (refine F.oq rfl rfl rfl (fun _=>by first|(simp[go_sem];done)|simp[go_sem,Instr.makeInterface,Instr.makeFunc, *]) fun d K hK=>?_;go_simp;refine hK _ ?_;clear hK K d;try walk_nrm)
 refine F.cI ?_;iterate 3 (refine F.ak ?_;try walk_nrm)
 refine F.es ?_;refine F.bh ?_;iterate 2 (refine F.ak ?_;try walk_nrm)
 refine F.re ?_;refine F.cf rfl ?_;refine F.sk ?_;refine F.bh ?_;iterate 3 (refine F.ak ?_;try walk_nrm)
 refine F.es ?_;refine F.bh ?_;iterate 3 (refine F.ak ?_;try walk_nrm)
 refine F.re ?_;refine F.cf rfl ?_;refine F.sk ?_;refine F.sq ?_;refine F.bh ?_;iterate 6 (refine F.oq rfl rfl rfl (fun _=>by first|(simp[go_sem];done)|simp[go_sem,Instr.makeInterface,Instr.makeFunc, *]) fun d K hK=>?_;go_simp;refine hK _ ?_;clear hK K d;try walk_nrm)
 refine F.re ?_
 by_cases Ci:q+1≤cap
 ·have c3:((cap:Int)<(q:Int)+1)=False:=by simp;omega
  have qc:(q:Int)+1≤(cap:Int):=by omega
  have c6:(cap=i+1)=False:=by simp;omega
  have iq3:(i:Int)≤(q:Int)+1:=by omega
  have pZ:q+1-(i+1)=q-i:=by omega
  have e6:∀w,(Instr.sliceAt 100 (.slice (some ⟨E,off,none⟩) q cap) none (some (.int .i64 ((q:Int)+1))) none).events prog w #[]=#[]:=fun w=>(Lj w (L:=q+1) (by omega) Ci).2
  have e7:∀w,(Instr.sliceAt 100 (.slice (some ⟨E,off,none⟩) (q+1) cap) (some (.int .i64 ((i:Int)+1))) none none).events prog w #[]=#[]:=fun w=>(mO w (L:=i+1) (by omega) (by omega) (by omega)).2
  have e8:∀w,(Instr.sliceAt 100 (.slice (some ⟨E,off,none⟩) (q+1) cap) (some (.int .i64 i)) none none).events prog w #[]=#[]:=fun w=>(mO w rfl (by omega) (by omega)).2
  simp only[c3,decide_false];refine F.cf rfl ?_;refine F.sk ?_;refine F.bh ?_;iterate 6 (refine F.oq rfl rfl rfl (fun _=>by first|(simp[go_sem];done)|simp[go_sem,Instr.makeInterface,Instr.makeFunc, *]) fun d K hK=>?_;go_simp;refine hK _ ?_;clear hK K d;try walk_nrm)
  refine F.es ?_;refine F.bh ?_;iterate 6 (refine F.oq rfl rfl rfl (fun _=>by first|(simp[go_sem];done)|simp[go_sem,Instr.makeInterface,Instr.makeFunc, *]) fun d K hK=>?_;go_simp;refine hK _ ?_;clear hK K d;try walk_nrm)
  refine F.apart rfl rfl (by decide) (.tmp 61) (.tmp 66) rfl (nb:=nb) (E:=E) rfl rfl gS jL aN (by omega) ?_;try walk_nrm
  refine F.oq rfl rfl rfl (fun _=>by first|(simp[go_sem];done)|simp[go_sem,Instr.makeInterface,Instr.makeFunc, *]) fun d K hK=>?_;go_simp;refine hK _ ?_;clear hK K d;try walk_nrm
  refine F.re ?_;refine F.ct rfl ?_;refine F.sq ?_;refine F.zq (γ:=Unit) (n:=9) mixed [[],[],[],[1,2],[0,3],[],[],[5,6],[4,7]] rfl (by kernel_rfl) (fun b g=>[(69,fZ (b 0) (.slice (some ⟨E,off,none⟩) (q+1) cap) (undef)),(70,fZ (b 1) (.int .i64 i) (undef)),(71,fZ (b 2) (.int .i64 1) (undef)),(72,fZ (b 3) (.int .i64 ((i:Int)+1)) (undef)),(73,fZ (b 4) (.slice (some ⟨E,off+(i+1)*2,none⟩) (q-i) (cap-(i+1))) (undef)),(74,fZ (b 5) (.slice (some ⟨E,off,none⟩) (q+1) cap) (undef)),(75,fZ (b 6) (.int .i64 i) (undef)),(76,fZ (b 7) (.slice (some ⟨E,off+i*2,none⟩) (q+1-i) (cap-i)) (undef)),(77,fZ (b 8) (.int .i64 ((q-i:Nat):Int)) (undef))]) (fun b g w=>(b 8=false→w=w0)∧(b 8=true→(w0.setRow E (qR cur (off+(i+1)*2) ((flat es).drop (2*i)))=w))) (()) (by simp only[pu,Nat.reduceAdd,Nat.reduceEqDiff,reduceIte]) (⟨fun _=>rfl,fun h=>by cases h⟩) (all_cons ?_ (all_cons ?_ (all_cons ?_ (all_cons ?_ (all_cons ?_ (all_cons ?_ (all_cons ?_ (all_cons ?_ (all_cons ?_ (all_nil)))))))))) ?_
  ·intro b g w hI bp aA cG rest iI cB
   obtain⟨cD,eY⟩:=hI;replace aA:b 0=false:=aA;have gW:=dN (bp 4 0 rfl) aA;have dX:=dN (bp 8 4 rfl) gW;have gP:=(cD dX).symm;subst gP;simp only[gW,dX,aA,pu,Nat.reduceAdd,Nat.reduceEqDiff,reduceIte];refine F.ak ?_;try walk_nrm
   have bE:=cB g _ ⟨fun _=>rfl,fun h=>no dX h⟩;simp only[gW,dX,aA,pu,Nat.reduceAdd,Nat.reduceEqDiff,reduceIte] at bE;exact bE
  ·intro b g w hI bp aA cG rest iI cB
   obtain⟨cD,eY⟩:=hI;replace aA:b 1=false:=aA;have kN:=dN (bp 3 1 rfl) aA;have gW:=dN (bp 4 3 rfl) kN;have dX:=dN (bp 8 4 rfl) gW;have gP:=(cD dX).symm;subst gP;simp only[kN,gW,dX,aA,pu,Nat.reduceAdd,Nat.reduceEqDiff,reduceIte];refine F.ak ?_;try walk_nrm
   have bE:=cB g _ ⟨fun _=>rfl,fun h=>no dX h⟩;simp only[kN,gW,dX,aA,pu,Nat.reduceAdd,Nat.reduceEqDiff,reduceIte] at bE;exact bE
  ·intro b g w hI bp aA cG rest iI cB
   obtain⟨cD,eY⟩:=hI;replace aA:b 2=false:=aA;have kN:=dN (bp 3 2 rfl) aA;have gW:=dN (bp 4 3 rfl) kN;have dX:=dN (bp 8 4 rfl) gW;have gP:=(cD dX).symm;subst gP;simp only[kN,gW,dX,aA,pu,Nat.reduceAdd,Nat.reduceEqDiff,reduceIte];refine F.ak ?_;try walk_nrm
   have bE:=cB g _ ⟨fun _=>rfl,fun h=>no dX h⟩;simp only[kN,gW,dX,aA,pu,Nat.reduceAdd,Nat.reduceEqDiff,reduceIte] at bE;exact bE
  ·intro b g w hI bp aA cG rest iI cB
   obtain⟨cD,eY⟩:=hI;replace aA:b 3=false:=aA;have d1:=cG 1 rfl;have d2:=cG 2 rfl;have gW:=dN (bp 4 3 rfl) aA;have dX:=dN (bp 8 4 rfl) gW;have gP:=(cD dX).symm;subst gP;simp only[d1,d2,gW,dX,aA,pu,Nat.reduceAdd,Nat.reduceEqDiff,reduceIte];refine F.ak ?_;try walk_nrm
   have bE:=cB g _ ⟨fun _=>rfl,fun h=>no dX h⟩;simp only[d1,d2,gW,dX,aA,pu,Nat.reduceAdd,Nat.reduceEqDiff,reduceIte] at bE;exact bE
  ·intro b g w hI bp aA cG rest iI cB
   obtain⟨cD,eY⟩:=hI;replace aA:b 4=false:=aA;have d0:=cG 0 rfl;have d3:=cG 3 rfl;have dX:=dN (bp 8 4 rfl) aA;have gP:=(cD dX).symm;subst gP;simp only[d0,d3,dX,aA,pu,Nat.reduceAdd,Nat.reduceEqDiff,reduceIte];refine F.oq rfl rfl rfl (fun _=>by first|(simp[go_sem];done)|simp[go_sem,Instr.makeInterface,Instr.makeFunc, *]) fun d K hK=>?_;go_simp;refine hK _ ?_;clear hK K d;try walk_nrm
   have bE:=cB g _ ⟨fun _=>rfl,fun h=>no dX h⟩;simp only[d0,d3,dX,aA,pu,Nat.reduceAdd,Nat.reduceEqDiff,reduceIte] at bE;exact bE
  ·intro b g w hI bp aA cG rest iI cB
   obtain⟨cD,eY⟩:=hI;replace aA:b 5=false:=aA;have wH:=dN (bp 7 5 rfl) aA;have dX:=dN (bp 8 7 rfl) wH;have gP:=(cD dX).symm;subst gP;simp only[wH,dX,aA,pu,Nat.reduceAdd,Nat.reduceEqDiff,reduceIte];refine F.ak ?_;try walk_nrm
   have bE:=cB g _ ⟨fun _=>rfl,fun h=>no dX h⟩;simp only[wH,dX,aA,pu,Nat.reduceAdd,Nat.reduceEqDiff,reduceIte] at bE;exact bE
  ·intro b g w hI bp aA cG rest iI cB
   obtain⟨cD,eY⟩:=hI;replace aA:b 6=false:=aA;have wH:=dN (bp 7 6 rfl) aA;have dX:=dN (bp 8 7 rfl) wH;have gP:=(cD dX).symm;subst gP;simp only[wH,dX,aA,pu,Nat.reduceAdd,Nat.reduceEqDiff,reduceIte];refine F.ak ?_;try walk_nrm
   have bE:=cB g _ ⟨fun _=>rfl,fun h=>no dX h⟩;simp only[wH,dX,aA,pu,Nat.reduceAdd,Nat.reduceEqDiff,reduceIte] at bE;exact bE
  ·intro b g w hI bp aA cG rest iI cB
   obtain⟨cD,eY⟩:=hI;replace aA:b 7=false:=aA;have d5:=cG 5 rfl;have d6:=cG 6 rfl;have dX:=dN (bp 8 7 rfl) aA;have gP:=(cD dX).symm;subst gP;simp only[d5,d6,dX,aA,pu,Nat.reduceAdd,Nat.reduceEqDiff,reduceIte];refine F.oq rfl rfl rfl (fun _=>by first|(simp[go_sem];done)|simp[go_sem,Instr.makeInterface,Instr.makeFunc, *]) fun d K hK=>?_;go_simp;refine hK _ ?_;clear hK K d;try walk_nrm
   have bE:=cB g _ ⟨fun _=>rfl,fun h=>no dX h⟩;simp only[d5,d6,dX,aA,pu,Nat.reduceAdd,Nat.reduceEqDiff,reduceIte] at bE;exact bE
  ·intro b g w hI bp aA cG rest iI cB
   obtain⟨cD,eY⟩:=hI;replace aA:b 8=false:=aA;have d4:=cG 4 rfl;have d7:=cG 7 rfl;have gP:=(cD aA).symm;subst gP;simp only[d4,d7,aA,pu,Nat.reduceAdd,Nat.reduceEqDiff,reduceIte];refine F.CP rfl rfl (by decide) (.tmp 73) (.tmp 76) rfl (E:=E) (p:=off+(i+1)*2) (n:=q-i) (vs:=(flat es).drop (2*i)) (bb:=⟨E,off+i*2,none⟩) rfl rfl jL (Nat.min_eq_right (by omega)).symm Cc (by rw[Cc];omega) (pR jL Ry) gY qj (fun ad h=>qj ad false h) SR ?_;intro w3 cm;try walk_nrm
   have bE:=cB g _ ⟨fun h=>by simp[tick] at h,fun _=>cm⟩;simp only[d4,d7,aA,pu,Nat.reduceAdd,Nat.reduceEqDiff,reduceIte] at bE;exact bE
  intro b g w hI aB;obtain⟨cD,eY⟩:=hI;simp only[aB 0 (by decide),aB 1 (by decide),aB 2 (by decide),aB 3 (by decide),aB 4 (by decide),aB 5 (by decide),aB 6 (by decide),aB 7 (by decide),aB 8 (by decide),pu,Nat.reduceAdd,Nat.reduceEqDiff,reduceIte];have bJ:=eY (aB 8 (by decide));have s1:(qR cur (off+(i+1)*2) ((flat es).drop (2*i))).size=cur.size:=jX (by rw[Cc];omega);have vw:w.heap[E]? =some (.cells (qR cur (off+(i+1)*2) ((flat es).drop (2*i))) 128 (0,0)):=by rw[←bJ];exact setRow_heap w0 E _ _ 128 _ jL
  have rN:w.heap[nb]? =some (.cells #[.int .i64 t,f] tb (0,0)):=by rw[←bJ,setRow_other _ E nb _ aN];exact gS
  have Wb:w.heap.size=w0.heap.size:=by rw[←bJ];simp
  refine F.cI ?_;iterate 4 (refine F.oq rfl rfl rfl (fun _=>by first|(simp[go_sem];done)|simp[go_sem,Instr.makeInterface,Instr.makeFunc, *]) fun d K hK=>?_;go_simp;refine hK _ ?_;clear hK K d;try walk_nrm)
  refine F.CP rfl rfl (by decide) (.tmp 80) (.tmp 81) rfl (E:=E) (p:=off+i*2) (n:=1) (vs:=[.int .i64 t,f]) (bb:=⟨nb,0,none⟩) rfl rfl vw (Nat.min_eq_left (by omega)).symm rfl (by simp only[List.length_cons,List.length_nil,s1];omega) (tF rN) h1c qj rG (by show nb<_;omega) ?_;intro w2 c7;try walk_nrm
  refine F.cI ?_;iterate 2 (refine F.ak ?_;try walk_nrm)
  refine F.re ?_;refine F.ctl (fun _=>stepG_ret') ?_;refine F.aF rfl rfl func60 (resultsC_tmp (by rfl) _) ?_;have uu:w2.heap[E]? =some (.cells (qR (qR cur (off+(i+1)*2) ((flat es).drop (2*i))) (off+i*2) [.int .i64 t,f]) 128 (0,0)):=by rw[←c7];exact setRow_heap w E _ _ 128 _ vw
  refine hc _ _ ⟨⟨ZR,.inr ⟨E,off,cap,_,by rw[so es i t f (by omega),hq];rfl,by rw[so es i t f (by omega),hq];exact Ci,hE,uu,?_,fun j u hu=>?_⟩⟩,?_,fun g hg=>?_⟩
  ·rw[jX (by rw[s1];simp only[List.length_cons,List.length_nil];omega),s1];exact kH
  ·rw[zg] at hu
   exact B9 (R:=cur) (o:=off) (i:=i) (q:=q) zI (by omega) rfl (by omega) (fun j u hj hu=>pF j u hu) (.inr ⟨rfl,rfl⟩) j u hu
  ·have k1:Kp [E] w0 w:=bJ▸Kp.setRow w0 E _
   exact k1.lG (c7▸Kp.setRow w E _) (by simp) (by simp)
  ·rw[br] at hg
   simp[Value.ownBlock] at hg;omega
 have c3:((cap:Int)<(q:Int)+1)=True:=by simp;omega
 have e2:∀w,(Instr.sliceAt 100 (.slice (some ⟨E,off,none⟩) q cap) none (some (.int .i64 i)) none).events prog w #[]=#[]:=fun w=>(Lj w rfl (by omega)).2
 simp only[c3,decide_true];refine F.ct rfl ?_;refine F.bh ?_;iterate 8 (refine F.oq rfl rfl rfl (fun _=>by first|(simp[go_sem];done)|simp[go_sem,Instr.makeInterface,Instr.makeFunc, *]) fun d K hK=>?_;go_simp;refine hK _ ?_;clear hK K d;try walk_nrm)
 refine F.KR rfl rfl (by decide) (.tmp 34) (.tmp 39) rfl (p:=i) (n:=q+1-i) (xs:=(flat es).take (2*i)) rfl rfl jL Cb (fun j u hu=>pF j u (by rw[List.getElem?_take] at hu;split at hu;exact hu;cases hu)) (by omega) (by omega) (by omega) (fun ad h=>qj ad false h) ?_;intro c' rs w1 eP kY bJ;rw[hpn] at eP ⊢;try walk_nrm
 generalize cP:w0.heap.size=n1 at SR Eb Nv hN hc ⊢;have vw:w1.heap[n1]? =some (.cells (((flat es).take (2*i)).toArray++rs) 128 (0,0)):=by subst bJ;rw[←cP];exact oB (w:=w0) rfl rfl
 have Hj:w1.heap[E]? =some (.cells cur 128 (0,0)):=by subst bJ;rw[Below.heap_alloc _ _ _ (by omega)];exact jL
 have rN:w1.heap[nb]? =some (.cells #[.int .i64 t,f] tb (0,0)):=by subst bJ;rw[Below.heap_alloc _ _ _ (by omega)];exact gS
 have v8:w1.heap.size=n1+1:=by subst bJ;simp[cP]
 have c4:(c'=i)=False:=by simp;omega
 have c5:(c'=i+1)=False:=by simp;omega
 have e3:∀w,(Instr.sliceAt 100 (.slice (some ⟨n1,0,none⟩) (q+1) c') (some (.int .i64 i)) none none).events prog w #[]=#[]:=fun w=>(mO w rfl (by omega) (by omega)).2
 have e4:∀w,(Instr.sliceAt 100 (.slice (some ⟨n1,0,none⟩) (q+1) c') (some (.int .i64 ((i:Int)+1))) none none).events prog w #[]=#[]:=fun w=>(mO w (L:=i+1) (by omega) (by omega) (by omega)).2
 have iq3:(i:Int)≤(q:Int)+1:=by omega
 have iq4:(i:Int)+1≤((q+1:Nat):Int):=by omega
 refine F.ak ?_;try walk_nrm
 refine F.cI ?_;iterate 4 (refine F.oq rfl rfl rfl (fun _=>by first|(simp[go_sem];done)|simp[go_sem,Instr.makeInterface,Instr.makeFunc, *]) fun d K hK=>?_;go_simp;refine hK _ ?_;clear hK K d;try walk_nrm)
 refine F.CP rfl rfl (by decide) (.tmp 43) (.tmp 44) rfl (E:=n1) (p:=i*2) (n:=1) (vs:=[.int .i64 t,f]) (bb:=⟨nb,0,none⟩) rfl rfl vw (Nat.min_eq_left (by omega)).symm rfl (by simp only[List.length_cons,List.length_nil,Array.size_append,List.size_toArray,Cb,kY];omega) (tF rN) h1c (fun ad wr h=>Nv ad wr (by omega)) rG (by show nb<_;omega) ?_;intro w2 c7;try walk_nrm
 have Vu:(qR (((flat es).take (2*i)).toArray++rs) (i*2) [.int .i64 t,f]).size=(((flat es).take (2*i)).toArray++rs).size:=jX (by simp only[List.length_cons,List.length_nil,Array.size_append,List.size_toArray,Cb,kY];omega);have Uk:(((flat es).take (2*i)).toArray++rs).size=2*c':=by simp only[Array.size_append,List.size_toArray,Cb,kY];omega
 have uu:w2.heap[n1]? =some (.cells (qR (((flat es).take (2*i)).toArray++rs) (i*2) [.int .i64 t,f]) 128 (0,0)):=by rw[←c7];exact setRow_heap w1 n1 _ _ 128 _ vw
 have Su:w2.heap[E]? =some (.cells cur 128 (0,0)):=by rw[←c7,setRow_other _ n1 E _ (by omega)];exact Hj
 have Io:w2.heap.size=n1+1:=by rw[←c7];simp[v8]
 have pZ:q+1-(i+1)=q-i:=by omega
 refine F.es ?_;refine F.zq (γ:=Unit) (n:=9) mixed [[],[],[],[1,2],[0,3],[],[],[5,6],[4,7]] rfl (by kernel_rfl) (fun b g=>[(46,fZ (b 0) (.slice (some ⟨n1,0,none⟩) (q+1) c') (undef)),(47,fZ (b 1) (.int .i64 i) (undef)),(48,fZ (b 2) (.int .i64 1) (undef)),(49,fZ (b 3) (.int .i64 ((i:Int)+1)) (undef)),(50,fZ (b 4) (.slice (some ⟨n1,(i+1)*2,none⟩) (q-i) (c'-(i+1))) (undef)),(51,fZ (b 5) (.slice (some ⟨E,off,none⟩) q cap) (undef)),(52,fZ (b 6) (.int .i64 i) (undef)),(53,fZ (b 7) (.slice (some ⟨E,off+i*2,none⟩) (q-i) (cap-i)) (undef)),(54,fZ (b 8) (.int .i64 ((q-i:Nat):Int)) (undef))]) (fun b g w=>(b 8=false→w=w2)∧(b 8=true→(w2.setRow n1 (qR (qR (((flat es).take (2*i)).toArray++rs) (i*2) [.int .i64 t,f]) ((i+1)*2) ((flat es).drop (2*i)))=w))) (()) (by simp only[pu,Nat.reduceAdd,Nat.reduceEqDiff,reduceIte]) (⟨fun _=>rfl,fun h=>by cases h⟩) (all_cons ?_ (all_cons ?_ (all_cons ?_ (all_cons ?_ (all_cons ?_ (all_cons ?_ (all_cons ?_ (all_cons ?_ (all_cons ?_ (all_nil)))))))))) ?_
 ·intro b g w hI bp aA cG rest iI cB
  obtain⟨cD,eY⟩:=hI;replace aA:b 0=false:=aA;have gW:=dN (bp 4 0 rfl) aA;have dX:=dN (bp 8 4 rfl) gW;have gP:=(cD dX).symm;subst gP;simp only[gW,dX,aA,pu,Nat.reduceAdd,Nat.reduceEqDiff,reduceIte];refine F.ak ?_;try walk_nrm
  have bE:=cB g _ ⟨fun _=>rfl,fun h=>no dX h⟩;simp only[gW,dX,aA,pu,Nat.reduceAdd,Nat.reduceEqDiff,reduceIte] at bE;exact bE
 ·intro b g w hI bp aA cG rest iI cB
  obtain⟨cD,eY⟩:=hI;replace aA:b 1=false:=aA;have kN:=dN (bp 3 1 rfl) aA;have gW:=dN (bp 4 3 rfl) kN;have dX:=dN (bp 8 4 rfl) gW;have gP:=(cD dX).symm;subst gP;simp only[kN,gW,dX,aA,pu,Nat.reduceAdd,Nat.reduceEqDiff,reduceIte];refine F.ak ?_;try walk_nrm
  have bE:=cB g _ ⟨fun _=>rfl,fun h=>no dX h⟩;simp only[kN,gW,dX,aA,pu,Nat.reduceAdd,Nat.reduceEqDiff,reduceIte] at bE;exact bE
 ·intro b g w hI bp aA cG rest iI cB
  obtain⟨cD,eY⟩:=hI;replace aA:b 2=false:=aA;have kN:=dN (bp 3 2 rfl) aA;have gW:=dN (bp 4 3 rfl) kN;have dX:=dN (bp 8 4 rfl) gW;have gP:=(cD dX).symm;subst gP;simp only[kN,gW,dX,aA,pu,Nat.reduceAdd,Nat.reduceEqDiff,reduceIte];refine F.ak ?_;try walk_nrm
  have bE:=cB g _ ⟨fun _=>rfl,fun h=>no dX h⟩;simp only[kN,gW,dX,aA,pu,Nat.reduceAdd,Nat.reduceEqDiff,reduceIte] at bE;exact bE
 ·intro b g w hI bp aA cG rest iI cB
  obtain⟨cD,eY⟩:=hI;replace aA:b 3=false:=aA;have d1:=cG 1 rfl;have d2:=cG 2 rfl;have gW:=dN (bp 4 3 rfl) aA;have dX:=dN (bp 8 4 rfl) gW;have gP:=(cD dX).symm;subst gP;simp only[d1,d2,gW,dX,aA,pu,Nat.reduceAdd,Nat.reduceEqDiff,reduceIte];refine F.ak ?_;try walk_nrm
  have bE:=cB g _ ⟨fun _=>rfl,fun h=>no dX h⟩;simp only[d1,d2,gW,dX,aA,pu,Nat.reduceAdd,Nat.reduceEqDiff,reduceIte] at bE;exact bE
 ·intro b g w hI bp aA cG rest iI cB
  obtain⟨cD,eY⟩:=hI;replace aA:b 4=false:=aA;have d0:=cG 0 rfl;have d3:=cG 3 rfl;have dX:=dN (bp 8 4 rfl) aA;have gP:=(cD dX).symm;subst gP;simp only[d0,d3,dX,aA,pu,Nat.reduceAdd,Nat.reduceEqDiff,reduceIte];refine F.oq rfl rfl rfl (fun _=>by first|(simp[go_sem];done)|simp[go_sem,Instr.makeInterface,Instr.makeFunc, *]) fun d K hK=>?_;go_simp;refine hK _ ?_;clear hK K d;try walk_nrm
  have bE:=cB g _ ⟨fun _=>rfl,fun h=>no dX h⟩;simp only[d0,d3,dX,aA,pu,Nat.reduceAdd,Nat.reduceEqDiff,reduceIte] at bE;exact bE
 ·intro b g w hI bp aA cG rest iI cB
  obtain⟨cD,eY⟩:=hI;replace aA:b 5=false:=aA;have wH:=dN (bp 7 5 rfl) aA;have dX:=dN (bp 8 7 rfl) wH;have gP:=(cD dX).symm;subst gP;simp only[wH,dX,aA,pu,Nat.reduceAdd,Nat.reduceEqDiff,reduceIte];refine F.ak ?_;try walk_nrm
  have bE:=cB g _ ⟨fun _=>rfl,fun h=>no dX h⟩;simp only[wH,dX,aA,pu,Nat.reduceAdd,Nat.reduceEqDiff,reduceIte] at bE;exact bE
 ·intro b g w hI bp aA cG rest iI cB
  obtain⟨cD,eY⟩:=hI;replace aA:b 6=false:=aA;have wH:=dN (bp 7 6 rfl) aA;have dX:=dN (bp 8 7 rfl) wH;have gP:=(cD dX).symm;subst gP;simp only[wH,dX,aA,pu,Nat.reduceAdd,Nat.reduceEqDiff,reduceIte];refine F.ak ?_;try walk_nrm
  have bE:=cB g _ ⟨fun _=>rfl,fun h=>no dX h⟩;simp only[wH,dX,aA,pu,Nat.reduceAdd,Nat.reduceEqDiff,reduceIte] at bE;exact bE
 ·intro b g w hI bp aA cG rest iI cB
  obtain⟨cD,eY⟩:=hI;replace aA:b 7=false:=aA;have d5:=cG 5 rfl;have d6:=cG 6 rfl;have dX:=dN (bp 8 7 rfl) aA;have gP:=(cD dX).symm;subst gP;simp only[d5,d6,dX,aA,pu,Nat.reduceAdd,Nat.reduceEqDiff,reduceIte];refine F.oq rfl rfl rfl (fun _=>by first|(simp[go_sem];done)|simp[go_sem,Instr.makeInterface,Instr.makeFunc, *]) fun d K hK=>?_;go_simp;refine hK _ ?_;clear hK K d;try walk_nrm
  have bE:=cB g _ ⟨fun _=>rfl,fun h=>no dX h⟩;simp only[d5,d6,dX,aA,pu,Nat.reduceAdd,Nat.reduceEqDiff,reduceIte] at bE;exact bE
 ·intro b g w hI bp aA cG rest iI cB
  obtain⟨cD,eY⟩:=hI;replace aA:b 8=false:=aA;have d4:=cG 4 rfl;have d7:=cG 7 rfl;have gP:=(cD aA).symm;subst gP;simp only[d4,d7,aA,pu,Nat.reduceAdd,Nat.reduceEqDiff,reduceIte];refine F.CP rfl rfl (by decide) (.tmp 50) (.tmp 53) rfl (E:=n1) (p:=(i+1)*2) (n:=q-i) (vs:=(flat es).drop (2*i)) (bb:=⟨E,off+i*2,none⟩) rfl rfl uu (Nat.min_self _).symm Cc (by rw[Cc,Vu,Uk];omega) (pR Su Ry) gY (fun ad wr h=>Nv ad wr (by omega)) (fun ad h=>qj ad false h) (by show E<_;omega) ?_;intro w3 cm;try walk_nrm
  have bE:=cB g _ ⟨fun h=>by simp[tick] at h,fun _=>cm⟩;simp only[d4,d7,aA,pu,Nat.reduceAdd,Nat.reduceEqDiff,reduceIte] at bE;exact bE
 intro b g w hI aB;obtain⟨cD,eY⟩:=hI;simp only[aB 0 (by decide),aB 1 (by decide),aB 2 (by decide),aB 3 (by decide),aB 4 (by decide),aB 5 (by decide),aB 6 (by decide),aB 7 (by decide),aB 8 (by decide),pu,Nat.reduceAdd,Nat.reduceEqDiff,reduceIte];have cm:=eY (aB 8 (by decide));refine F.cI ?_;iterate 2 (refine F.ak ?_;try walk_nrm)
 refine F.re ?_;refine F.ctl (fun _=>stepG_ret') ?_;refine F.aF rfl rfl func60 (resultsC_tmp (by rfl) _) ?_;have J1:w.heap[n1]? =some (.cells (qR (qR (((flat es).take (2*i)).toArray++rs) (i*2) [.int .i64 t,f]) ((i+1)*2) ((flat es).drop (2*i))) 128 (0,0)):=by rw[←cm];exact setRow_heap w2 n1 _ _ 128 _ uu
 refine hc _ _ ⟨⟨ZR,.inr ⟨n1,0,c',_,by rw[so es i t f (by omega),hq];rfl,by rw[so es i t f (by omega),hq];exact eP,hN,J1,?_,fun j u hu=>?_⟩⟩,?_,fun g hg=>?_⟩
 ·rw[jX (by rw[Cc,Vu,Uk];omega),Vu,Uk];omega
 ·rw[zg] at hu
  refine B9 (R:=((flat es).take (2*i)).toArray++rs) (R1:=qR (((flat es).take (2*i)).toArray++rs) (i*2) [.int .i64 t,f]) (o:=0) (i:=i) (q:=q) zI (by omega) rfl (by rw[Uk];omega) (fun j u hj hu=>?_) (.inl ⟨by rw[Nat.zero_add],by rw[Nat.zero_add]⟩) j u hu;rw[Nat.zero_add,Array.getElem?_append_left (by simp only[List.size_toArray,Cb];exact hj),List.getElem?_toArray,List.getElem?_take_of_lt hj];exact hu
 ·have k1:Kp [E] w0 w1:=Kp.alloc bJ
  have k2:Kp [E] w0 w2:=k1.lG (c7▸Kp.setRow w1 n1 _) (by simp;omega) (by simp);exact k2.lG (cm▸Kp.setRow w2 n1 _) (by simp;omega) (by simp)
 ·rw[br] at hg
  simp[Value.ownBlock] at hg;omega
end Go.Proofs.YtobagnjnbmgidaaGreatDoor
