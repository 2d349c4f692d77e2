import Derived.Test.YtobagnjnbmgidaaGreatDoorE2
set_option linter.all false
set_option maxHeartbeats 2000000
set_option maxRecDepth 100000
namespace Go.Proofs.YtobagnjnbmgidaaGreatDoor
open Go.Conc Go.RowKit
theorem DZ{α β:Type}{P:Program}:∀(s:Sem α)(f:α→Sem β),cY P (s.bind f)=(cY P s).bind fun a=>cY P (f a):=by
 intro s
 induction s with
 |pure a=>intro f;rfl
 |program k ih=>intro f;exact ih _ f
 |_=>intro f;rfl
theorem cC{α β:Type}{P:Program}(s:Sem α)(f:α→Sem β):cY P (s>>=f)=(cY P s).bind fun a=>cY P (f a):=DZ s f
theorem ia{α:Type}{P:Program}(a:α):cY P (pure a:Sem α)=some a:=rfl
theorem nX{P:Program}(t:TypeId)(d:TypeDesc)(h:P.underlying t=some d):cY P (underlying t)=some d:=by
 unfold underlying;simp[cC,program,cY,h,ia]
theorem Aw{P:Program}{E:Env}{o:Oper}{v:Value}{i:Int}{n:Nat}(h:Uv P E o=some (v,i,n))(h0:0≤i)(h1:i<(n:Int)):cY P (execOp (ev E) o)=some (.value v):=by
 obtain⟨dst,op,ty,pos,after,guard⟩:=o;unfold Uv at h
 split at h
 ·rename_i t x ix aQ
  simp only at aQ;subst aQ
  split at h
  ·rename_i a len cap kd i' hx hi
   split at h
   ·rename_i el hu
    split at h
    ·rename_i sz hs
     simp at h;obtain⟨rfl,rfl,rfl⟩:=h
     simp only[execOp,cC,Instr.indexAt,hx,hi,asIntOf,ia,Option.bind_some,nX t _ hu,h0,h1,and_self,if_true,hs]
    ·cases h
   ·cases h
  ·cases h
 ·cases h
section
variable{P:Program}{main:Bool}{B:Nat}{Ok:Addr→Bool→Prop}{Ψ:Goroutine→World→Prop}{b0:Frame}{nU:List Deferred}{cs0:List Frame}
theorem BI(F:aC P main (DX Ok) Ψ)(hB:∀(a:Addr)(wr:Bool),B≤a.block→Ok a wr)(hk:b0.kind≠.early){f:XF}{l:List XF}{x x':cT}{o:Oper}{E:Env}{ops:Array Oper}{i:Nat}{r:List Nat}{k:List Item}(h:uH P B f l x (.inRegion ops r::k) o E=some x')(ht:f.todo=.inRegion ops (i::r)::k)(ho:ops[i]? =some o)(hm:oS x'){b:Frame}{a:Act}{cs:List Frame}{w:World}(hA:aO E f.N a)(hw:Region.wanted o (yielded ops a.tmps)=true)(hR:KY b0 nU cs0 l f.f b a.defers cs)(hI:Inv Ok B w x.m)(K:xK Ok B Ψ b0 nU cs0 x.m w x'):Ψ (G (b.at a f.todo) cs) w:=by
 unfold uH at h;cases oN:uN o with
 |false=>rw[oN] at h;exact BH F hB hk h ht ho hm hA hw hR hI K
 |true=>
  rw[oN] at h;simp only[cond_true] at h
  split at h
  ·exact BH F hB hk h ht ho hm hA hw hR (x:={x with bs:=_}) hI K
  ·rename_i bs SD
   obtain⟨nC,h⟩:=az h
   split at h
   ·rename_i v ii n hx
    cases hp:nv f (.inRegion ops r::k) E o.dst v with
    |none=>rw[hp] at h;cases h
    |some g=>
     rw[hp] at h;cases h;have hi:=hm.fI (ii,n) (by simp);have hq:=fG _ _ (Aw hx hi.1 hi.2)
     have AA:mo o=false:=by
      unfold uN at oN;unfold mo
      split at oN
      ·rename_i e;rw[e]
      ·cases oN
     have cw:execOp a.eval o=execOp (ev E) o:=execOp_congr AA fun y hy=>hA.eval (Array.all_eq_true_iff_forall_mem.1 nC y hy)
     obtain⟨p1,p2,p3⟩:=pe hp hA;rw[ht];refine F.op ho hw (hR.late hk) fun d K' hK=>?_
     have e2:(execOp a.eval o).run P (w.at d)=.ok (.value v) (w.at d):=by rw[cw,←Sem.runT_fst (es:=#[]),hq]
     have e3:raw P a o (w.at d)=#[]:=by unfold raw Sem.events;rw[cw,hq]
     rw[e2];refine hK _ w ⟨by rw[e3];exact DX.still d (by simp),K _ _ ?_ hI (Fr.refl _ _) (fun _ h=>.inl h)⟩;exact⟨b,_,cs,by rw[p2],p3,by rw[p1,put_defers];exact hR⟩
   ·cases h
  ·cases h
theorem Bo{u b s:Bool}(h:(!s||(u==b))=true)(hs:s=false→u=b):u=b:=by
 cases s with
 |true=>simpa using h
 |false=>exact hs rfl
theorem Ns(F:aC P main (DX Ok) Ψ)(hB:∀(a:Addr)(wr:Bool),B≤a.block→Ok a wr)(hk:b0.kind≠.early){f:XF}{l:List XF}{x x':cT}{ops:Array Oper}{i:Nat}{r:List Nat}{k:List Item}(h:Lv P B f l x ops i (.inRegion ops r::k)=some x')(ht:f.todo=.inRegion ops (i::r)::k)(hm:oS x')(p7:∀p∈x'.dB,p.1=p.2){b:Frame}{a:Act}{cs:List Frame}{w:World}(hA:aO f.E f.N a)(hR:KY b0 nU cs0 l f.f b a.defers cs)(hI:Inv Ok B w x.m)(K:xK Ok B Ψ b0 nU cs0 x.m w x')(R4:∀y y':cT,∀f' E' o,uH P B f' l y (.inRegion ops r::k) o E'=some y'→∀p∈y.dB,p∈y'.dB):Ψ (G (b.at a f.todo) cs) w:=by
 unfold Lv at h
 split at h
 ·cases h
 ·rename_i o ho
  split at h
  ·rename_i hg
   exact BI F hB hk h ht ho hm hA (by simp[Region.wanted,hg]) hR hI K
  ·rename_i j want hg
   split at h
   ·cases h
   ·rename_i d hd
    split at h
    ·rename_i u hu
     split at h
     ·rename_i bb s bs SD
      obtain⟨hc,h⟩:=az h
      have Rw:u=bb:=Bo hc fun hs=>by
       subst hs
       have gC:(u,bb)∈x'.dB:=by
        cases eZ:(bb==want) with
        |true=>simp only[eZ,cond_true] at h;exact R4 _ _ _ _ _ h _ (by simp)
        |false=>
         simp only[eZ,cond_false] at h;cases hp:nv f (.inRegion ops r::k) ((d,.bool bb)::f.E) o.dst undef with
         |none=>rw[hp] at h;cases h
         |some g=>rw[hp] at h;cases h;simp
       exact p7 _ gC
      subst Rw;have P6:aO ((d,.bool u)::f.E) f.N a:=hA.more hu
      have hy:yielded ops a.tmps j=some u:=by
       unfold yielded;rw[hd];simp only[Option.bind_some];rw[hA.val d _ hu]
      cases eZ:(u==want) with
      |true=>
       simp only[eZ,cond_true] at h;have Rv:u=want:=by simpa using eZ
       refine BI F hB hk (f:={f with E:=(d,.bool u)::f.E}) (x:={x with bs:=bs,dB:=_}) h ht ho hm P6 (by simp[Region.wanted,hg,hy,Rv]) hR hI K
      |false=>
       simp only[eZ,cond_false] at h;cases hp:nv f (.inRegion ops r::k) ((d,.bool u)::f.E) o.dst undef with
       |none=>rw[hp] at h;cases h
       |some g=>
        rw[hp] at h;cases h;obtain⟨p1,p2,p3⟩:=pe hp P6;rw[ht];refine F.unwanted ho (by simp[Region.wanted,hg,hy];simpa using eZ) (K _ _ ?_ hI (Fr.refl _ _) (fun _ h=>.inl h));exact⟨b,_,cs,by rw[p2],p3,by rw[p1,put_defers];exact hR⟩
     ·cases h
    ·rename_i arr hu
     cases hp:nv f (.inRegion ops r::k) f.E o.dst undef with
     |none=>rw[hp] at h;cases h
     |some g=>
      rw[hp] at h;cases h;obtain⟨p1,p2,p3⟩:=pe hp hA
      have hy:yielded ops a.tmps j=none:=by
       unfold yielded;rw[hd];simp only[Option.bind_some];rw[hA.val d _ hu]
      rw[ht];refine F.unwanted ho (by simp[Region.wanted,hg,hy]) (K _ _ ?_ hI (Fr.refl _ _) (fun _ h=>.inl h));exact⟨b,_,cs,by rw[p2],p3,by rw[p1,put_defers];exact hR⟩
    ·cases h
theorem aC.wM{D:World→World→Array Event→Prop}{b:Frame}{a:Act}{cs:List Frame}{w:World}(F:aC P main D Ψ){fn:Func}{todo:List Item}{c:Frame}{v:Value}(hn:b.kind=.normal)(hd:a.defers=[])(hf:P.funcs[b.fn]? =some fn)(hr:∀d,(results fn a.tmps).run P (w.at d)=.ok v (w.at d))(hD:∀d es,(∀e∈es,e∈(results fn a.tmps).events P (w.at d) #[])→D (w.at d) (w.at d) es)(h:Ψ (G (c.finish v) cs) w):Ψ (G {b.at a todo with mode:=.returning} (c::cs)) w:=
 F.step _ _ rfl fun d=>by
  have this:∀W,(results fn a.tmps).run P W=.ok v W→stepG P main (G {b.at a todo with mode:=.returning} (c::cs)) W=.go (G (c.finish v) cs) W (seen P b.fn ((results fn a.tmps).events P W #[])):=fun W hr=>by
   simp[G,stepG,unwind,doReturn,Frame.at,hn,hd,hf,hr,GStep.after]
  refine⟨_,_,_,this _ (hr d),hD d _ fun e he=>mem_seen he,F.at' _ _ _ h,fun z x hz hR=>?_⟩;have hs:=run_set x (results fn a.tmps) (w.at d) #[] hR (by rw[Sem.runT_fst,hr d];trivial) (hz _ _ _ (hD d _ fun e he=>he));have e1:(results fn a.tmps).run P ((w.at d).setCell z x)=.ok v ((w.at d).setCell z x):=by rw[←Sem.runT_fst (es:=#[]),hs,Sem.runT_fst,hr d];rfl
  have e2:(results fn a.tmps).events P ((w.at d).setCell z x) #[]=(results fn a.tmps).events P (w.at d) #[]:=by unfold Sem.events;rw[hs]
  rw[this _ e1,e2]
theorem rW{f:XF}{v:Value}{a:Act}{m m':mJ}{w:World}(h:l8 P f m=some (v,m'))(he:∀p∈m'.eqs,p.1=p.2)(hb:∀p∈m'.aZ,p.1<p.2)(hA:aO f.E f.N a)(hS:Sat Ok w m.M):
 ∃fn,P.funcs[f.f]? =some fn∧(∀d,(results fn a.tmps).run P (w.at d)=.ok v (w.at d))∧(∀d es,(∀e∈es,e∈(results fn a.tmps).events P (w.at d) #[])→DX Ok (w.at d) (w.at d) es)∧m'.M=m.M∧m'.c=m.c:=by
 unfold l8 at h
 split at h
 ·rename_i fn oO
  obtain⟨hk,h⟩:=az h
  have LL:∀t u,look f.E t=some u→a.tmps.getD t undef=(Bu f.N f.E).getD t undef:=fun t u e=>by
   have h1:=hA.val t u e
   have aT:t<f.N:=by
    rcases Nat.lt_or_ge t f.N with z|z
    ·exact z
    ·rw[Array.getElem?_eq_none (by rw[hA.sz];exact z)] at h1;cases h1
   rw[Array.getD_eq_getD_getElem?,h1,Array.getD_eq_getD_getElem?];simp[Bu,aT,e]
  have hc:results fn a.tmps=results fn (Bu f.N f.E):=uI fun r hr=>by
   have ZM:=List.all_eq_true.1 hk r hr;refine⟨fun x e=>?_,fun x y e=>?_⟩
   ·subst e;cases hl:look f.E x with
    |none=>simp[FO,hl] at ZM
    |some u=>exact LL x u hl
   ·subst e;cases hl:look f.E x with
    |none=>simp[FO,hl] at ZM
    |some u=>exact LL x u hl
  obtain⟨iJ,h1,h2⟩:=Jr _ _ _ _ h he hb hS #[];have hm:=qg _ _ _ _ h;refine⟨fn,oO,fun d=>by rw[hc,←Sem.runT_fst (es:=#[]),h1 d],fun d es fu=>DX.still d fun e hm=>?_,hm.2.2.1,hm.2.2.2⟩;have:=fu e hm;rw[hc] at this;unfold Sem.events at this;rw[h1 d] at this;exact h2 d e (by simpa using this)
 ·cases h
theorem l7{f:XF}{v:Value}{m m':mJ}(h:l8 P f m=some (v,m')):(∀p∈m.eqs,p∈m'.eqs)∧(∀p∈m.aZ,p∈m'.aZ)∧m'.M=m.M∧m'.c=m.c:=by
 unfold l8 at h
 split at h
 ·obtain⟨_,h⟩:=az h;exact qg _ _ _ _ h
 ·cases h
theorem Inv.same{w:World}{m m':mJ}(h:Inv Ok B w m)(h1:m'.M=m.M)(h2:m'.c=m.c):Inv Ok B w m':=⟨by rw[h1];exact h.au,by rw[h2];exact h.sz⟩
theorem BK(F:aC P main (DX Ok) Ψ){f:XF}{l:List XF}{x x':cT}{b:Frame}{a:Act}{cs:List Frame}{w:World}(h:yG P f l x=some x')(hm:oS x')(hA:aO f.E f.N a)(hR:KY b0 nU cs0 l f.f b a.defers cs)(hI:Inv Ok B w x.m)(K:xK Ok B Ψ b0 nU cs0 x.m w x')(todo:List Item):Ψ (G {b.at a todo with mode:=.returning} cs) w:=by
 unfold yG at h
 split at h
 ·rename_i g l
  split at h
  ·rename_i ops i r k hg
   split at h
   ·rename_i v m hv
    cases hp:nv g (.inRegion ops r::k) g.E ((ops[i]?).bind (·.dst)) v with
    |none=>rw[hp] at h;cases h
    |some hh=>
     rw[hp] at h;cases h;obtain⟨r1,r2,r3,b',a',dY,rfl,r5,r6⟩:=hR;obtain⟨fn,oO,vw,uu,J1,RG⟩:=rW hv hm.eqs hm.aZ hA hI.au;obtain⟨p1,p2,p3⟩:=pe hp r5;refine F.wM r1 r3 (by rw[r2];exact oO) vw uu ?_;rw[hg,Frame.finish_at];refine K _ _ ?_ (hI.same J1 RG) (Fr.refl _ _) (fun _ h=>.inl (by simpa [J1] using h));exact⟨b',_,dY,by rw[p2],p3,by rw[p1,put_defers];exact r6⟩
   ·cases h
  ·cases h
 ·cases h
end
structure Sub(x y:cT):Prop where
 eqs:∀p∈x.m.eqs,p∈y.m.eqs
 aZ:∀p∈x.m.aZ,p∈y.m.aZ
 dB:∀p∈x.dB,p∈y.dB
 fI:∀p∈x.fI,p∈y.fI
theorem Sub.refl(x:cT):Sub x x:=⟨fun _ h=>h,fun _ h=>h,fun _ h=>h,fun _ h=>h⟩
theorem Sub.trans{x y z:cT}(h:Sub x y)(h':Sub y z):Sub x z:=⟨fun p hp=>h'.eqs p (h.eqs p hp),fun p hp=>h'.aZ p (h.aZ p hp),fun p hp=>h'.dB p (h.dB p hp),fun p hp=>h'.fI p (h.fI p hp)⟩
theorem Sub.met{x y:cT}(h:Sub x y)(hm:oS y):oS x:=⟨fun p hp=>hm.eqs p (h.eqs p hp),fun p hp=>hm.aZ p (h.aZ p hp),fun p hp=>hm.dB p (h.dB p hp),fun p hp=>hm.fI p (h.fI p hp)⟩
theorem map_some{α β:Type}{o:Option α}{f:α→β}{y:β}(h:o.map f=some y):∃a,o=some a∧f a=y:=by cases o with|none=>cases h|some a=>exact⟨a,rfl,Option.some.inj h⟩
section
variable{P:Program}{B:Nat}
theorem yB{f:XF}{l:List XF}{x x':cT}{t:List Item}{o:Oper}{E:Env}(h:Af P B f l x t o E=some x'):Sub x x':=by
 obtain⟨_,h⟩:=az h
 split at h
 ·rename_i v m hs;obtain⟨g,_,rfl⟩:=map_some h;have:=hU _ _ _ _ hs;exact⟨this.1,this.2,fun _ h=>h,fun _ h=>h⟩
 ·rename_i m hs;obtain⟨g,_,rfl⟩:=map_some h;have:=hU _ _ _ _ hs;exact⟨this.1,this.2,fun _ h=>h,fun _ h=>h⟩
 ·split at h
  ·split at h
   ·split at h
    ·cases h;exact⟨fun _ h=>h,fun _ h=>h,fun _ h=>h,fun _ h=>h⟩
    ·cases h
   ·cases h
  ·cases h
 ·cases h
theorem sY{f:XF}{l:List XF}{x x':cT}{t:List Item}{o:Oper}{E:Env}(h:uH P B f l x t o E=some x'):Sub x x':=by
 unfold uH at h;cases oN:uN o with
 |false=>rw[oN] at h;exact yB h
 |true=>
  rw[oN] at h;simp only[cond_true] at h
  split at h
  ·have:=yB h;exact⟨this.eqs,this.aZ,this.dB,this.fI⟩
  ·obtain⟨_,h⟩:=az h
   split at h
   ·obtain⟨g,_,rfl⟩:=map_some h;exact⟨fun _ h=>h,fun _ h=>h,fun _ h=>h,fun _ h=>List.mem_cons_of_mem _ h⟩
   ·cases h
  ·cases h
theorem JA{f:XF}{l:List XF}{x x':cT}{ops:Array Oper}{i:Nat}{t:List Item}(h:Lv P B f l x ops i t=some x'):Sub x x':=by
 unfold Lv at h
 split at h
 ·cases h
 ·split at h
  ·exact sY h
  ·rename_i want _
   split at h
   ·cases h
   ·split at h
    ·rename_i u _
     split at h
     ·rename_i bb s bs _
      obtain⟨_,h⟩:=az h;have h0:∀p∈x.dB,p∈(bif s then x.dB else(u,bb)::x.dB):=fun p hp=>by cases s<;>simp[hp]
      cases eZ:(bb==want) with
      |true=>simp only[eZ,cond_true] at h;have:=sY h;exact⟨this.eqs,this.aZ,fun p hp=>this.dB p (h0 p hp),this.fI⟩
      |false=>simp only[eZ,cond_false] at h;obtain⟨g,_,rfl⟩:=map_some h;exact⟨fun _ h=>h,fun _ h=>h,h0,fun _ h=>h⟩
     ·cases h
    ·obtain⟨g,_,rfl⟩:=map_some h;exact⟨fun _ h=>h,fun _ h=>h,fun _ h=>h,fun _ h=>h⟩
    ·cases h
theorem yF{f:XF}{l:List XF}{x x':cT}(h:yG P f l x=some x'):Sub x x':=by
 unfold yG at h
 split at h
 ·split at h
  ·split at h
   ·rename_i hv;obtain⟨g,_,rfl⟩:=map_some h;have:=l7 hv;exact⟨this.1,this.2.1,fun _ h=>h,fun _ h=>h⟩
   ·cases h
  ·cases h
 ·cases h
theorem vL{x x':cT}(h:nT P B x=some x'):Sub x x':=by
 unfold nT at h
 split at h
 ·cases h
 ·split at h
  ·cases h;exact⟨fun _ h=>h,fun _ h=>h,fun _ h=>h,fun _ h=>h⟩
  ·split at h
   ·split at h
    ·split at h
     ·rename_i bb s bs _
      obtain⟨_,h⟩:=az h;cases h
      exact⟨fun _ h=>h,fun _ h=>h,fun p hp=>by cases s<;>simp[hp],fun _ h=>h⟩
     ·cases h
    ·cases h
   ·exact JA h
   ·exact yF h
   ·exact yF h
   ·cases h
theorem qD:∀(n:Nat)(x x':cT),nS P B n x=some x'→Sub x x'
 |0,x,x',h=>by cases h;exact Sub.refl _
 |n+1,x,x',h=>by
  simp only[nS] at h
  split at h
  ·rename_i y hy;exact(vL hy).trans (qD n y x' h)
  ·cases h
variable{main:Bool}{Ok:Addr→Bool→Prop}{Ψ:Goroutine→World→Prop}{b0:Frame}{nU:List Deferred}{cs0:List Frame}
theorem zn(F:aC P main (DX Ok) Ψ)(hB:∀(a:Addr)(wr:Bool),B≤a.block→Ok a wr)(hk:b0.kind≠.early){x x':cT}(h:nT P B x=some x')(hm:oS x'){g:Goroutine}{w:World}(hg:TR b0 nU cs0 x.fs g)(hI:Inv Ok B w x.m)(K:xK Ok B Ψ b0 nU cs0 x.m w x'):Ψ g w:=by
 unfold nT at h
 split at h
 ·cases h
 ·rename_i f l W2
  rw[W2] at hg;obtain⟨b,a,cs,rfl,hA,hR⟩:=hg
  split at h
  ·rename_i t ht
   cases h
   exact F.ctl (fun _=>KC ht) (K _ _ ⟨b,a,cs,rfl,hA,hR⟩ hI (Fr.refl _ _) (fun _ h=>.inl h))
  ·split at h
   ·rename_i c y z k ht
    split at h
    ·rename_i u hu
     split at h
     ·rename_i bb s bs SD
      obtain⟨hc,h⟩:=az h;cases h
      simp only[Bool.and_eq_true] at hc;have Rw:u=bb:=Bo hc.2 fun hs=>by subst hs;exact hm.dB (u,bb) (by simp)
      subst Rw;have he:=hA.eval hc.1;rw[hu] at he;rw[ht];refine F.ctl (fun _=>stepG_cond (t:=u) he) (K _ _ ⟨b,a,cs,?_,?_,hR⟩ hI (Fr.refl _ _) (fun _ h=>.inl h))
      ·cases u<;>rfl
      ·cases c with
       |tmp d=>
        refine hA.more ?_;have h1:=hc.1;cases hl:look f.E d with
        |none=>simp[kn,hl] at h1
        |some v=>simp[ev,hl] at hu;rw[hu]
       |_=>exact hA
     ·cases h
    ·cases h
   ·rename_i ops i r k ht
    exact Ns F hB hk h ht hm hm.dB hA hR hI K (fun y y' f' E' o hr p hp=>(sY hr).dB p hp)
   ·rename_i k ht
    rw[ht];exact F.ctl (fun _=>stepG_ret') (BK F h hm hA hR hI K _)
   ·rename_i ht
    rw[ht];exact F.ctl (fun _=>stepG_end) (BK F h hm hA hR hI K _)
   ·cases h
theorem zl(F:aC P main (DX Ok) Ψ)(hB:∀(a:Addr)(wr:Bool),B≤a.block→Ok a wr)(hk:b0.kind≠.early):∀(n:Nat){x x':cT}(h:nS P B n x=some x')(hm:oS x'){g:Goroutine}{w:World}(hg:TR b0 nU cs0 x.fs g)(hI:Inv Ok B w x.m)(K:xK Ok B Ψ b0 nU cs0 x.m w x'),Ψ g w
 |0,x,x',h,hm,g,w,hg,hI,K=>by cases h;exact K _ _ hg hI (Fr.refl _ _) (fun _ h=>.inl h)
 |n+1,x,x',h,hm,g,w,hg,hI,K=>by
  simp only[nS] at h
  split at h
  ·rename_i y hy
   refine zn F hB hk hy ((qD n y x' h).met hm) hg hI fun g' w' qY jU Km Hu=>?_
   refine zl F hB hk n h hm qY jU fun g2 w2 tN Xz XD Xq=>?_
   refine K _ _ tN Xz (Km.trans XD Hu) (fun a ha=>(Xq a ha).elim (Hu a) (fun z=>.inr (Nat.le_trans Km.size z)))
  ·cases h
end
section
variable{P:Program}{B B':Nat}
theorem z9{α:Type}:∀(s:Sem α)(m m':mJ)(x:α),dK P B s m=some (x,m')→m.c≤m'.c:=by
 intro s
 induction s with
 |pure a=>intro m m' x h;simp[dK] at h;obtain⟨rfl,rfl⟩:=h;exact Nat.le_refl _
 |load md a k ih=>
  intro m m' x h;simp only[dK] at h
  split at h
  ·split at h
   ·obtain⟨_,h⟩:=az h;have:=ih _ _ _ _ h;exact this
   ·cases h
  ·cases h
 |store md a v k ih=>
  intro m m' x h;simp only[dK] at h
  split at h
  ·split at h
   ·obtain⟨_,h⟩:=az h;have:=ih _ _ _ h;exact this
   ·cases h
  ·cases h
 |new o k ih=>
  intro m m' x h;simp only[dK] at h
  split at h
  ·have:=ih _ _ _ _ h;simp at this;omega
  ·cases h
 |program k ih=>intro m m' x h;exact ih _ _ _ _ h
 |mark mk k ih=>
  intro m m' x h;cases mk<;>simp only[dK] at h<;>first|exact ih _ _ _ h|cases h
 |_=>intros;simp_all [dK]
theorem sS{α:Type}:∀(s:Sem α)(m m':mJ)(x:α),dK P B s m=some (x,m')→m'.c=m.c→dK P B' s m=some (x,m'):=by
 intro s
 induction s with
 |pure a=>intro m m' x h _;exact h
 |load md a k ih=>
  intro m m' x h hc;simp only[dK] at h ⊢
  split at h
  ·split at h
   ·obtain⟨hb,h⟩:=az h;rw[hb];exact ih _ _ _ _ h hc
   ·cases h
  ·cases h
 |store md a v k ih=>
  intro m m' x h hc;simp only[dK] at h ⊢
  split at h
  ·split at h
   ·obtain⟨hb,h⟩:=az h;rw[hb];exact ih _ _ _ h hc
   ·cases h
  ·cases h
 |new o k ih=>
  intro m m' x h hc;simp only[dK] at h
  split at h
  ·have:=z9 _ _ _ _ h;simp at this;omega
  ·cases h
 |program k ih=>intro m m' x h hc;exact ih _ _ _ _ h hc
 |mark mk k ih=>
  intro m m' x h;cases mk<;>simp only[dK] at h<;>first|exact ih _ _ _ h|cases h
 |_=>intros;simp_all [dK]
theorem F4{f:XF}{l:List XF}{x x':cT}{t:List Item}{o:Oper}{E:Env}(h:Af P B f l x t o E=some x'):x.m.c≤x'.m.c∧(x'.m.c=x.m.c→Af P B' f l x t o E=some x'):=by
 obtain⟨hb,h⟩:=az h;unfold Af;rw[hb];simp only[cond_true]
 split at h
 ·rename_i v m hs;obtain⟨g,hg,rfl⟩:=map_some h;exact⟨z9 _ _ _ _ hs,fun hc=>by rw[sS (B':=B') _ _ _ _ hs hc];simp only;rw[hg];rfl⟩
 ·rename_i m hs;obtain⟨g,hg,rfl⟩:=map_some h;exact⟨z9 _ _ _ _ hs,fun hc=>by rw[sS (B':=B') _ _ _ _ hs hc];simp only;rw[hg];rfl⟩
 ·rename_i f1 a1 m1 hs
  split at h
  ·rename_i hh args hq
   have fJ:dK P B' (execOp (ev E) o) x.m=some (.enter hh args,x.m):=by
    have key:∀(s:Sem Next)(y:Next)(m:mJ),cY P s=some y→dK P B' s m=some (y,m):=by
     intro s
     induction s with
     |pure a=>intro y m h;simp[cY] at h;subst h;rfl
     |program k ih=>intro y m h;exact ih _ _ _ h
     |_=>intros;simp_all [cY]
    exact key _ _ _ hq
   split at h
   ·rename_i fn oO
    split at h
    ·rename_i c hc
     cases h
     exact⟨Nat.le_refl _,fun _=>by rw[fJ]⟩
    ·cases h
   ·cases h
  ·cases h
 ·cases h
theorem F5{f:XF}{l:List XF}{x x':cT}{t:List Item}{o:Oper}{E:Env}(h:uH P B f l x t o E=some x'):x.m.c≤x'.m.c∧(x'.m.c=x.m.c→uH P B' f l x t o E=some x'):=by
 unfold uH at h ⊢;cases oN:uN o with
 |false=>rw[oN] at h;simp only[cond_false] at h ⊢;exact F4 h
 |true=>
  rw[oN] at h;simp only[cond_true] at h ⊢
  split at h
  ·have:=F4 (B':=B') h;exact this
  ·have h0:=h
   obtain⟨hb,h⟩:=az h
   split at h
   ·obtain⟨g,hg,rfl⟩:=map_some h;exact⟨Nat.le_refl _,fun _=>by rw[hb,hg];rfl⟩
   ·cases h
  ·cases h
theorem QU{f:XF}{l:List XF}{x x':cT}{ops:Array Oper}{i:Nat}{t:List Item}(h:Lv P B f l x ops i t=some x'):x.m.c≤x'.m.c∧(x'.m.c=x.m.c→Lv P B' f l x ops i t=some x'):=by
 unfold Lv at h ⊢
 split at h
 ·cases h
 ·split at h
  ·exact F5 h
  ·rename_i want _
   split at h
   ·cases h
   ·split at h
    ·split at h
     ·rename_i bb s bs _
      have h0:=h;obtain⟨hb,h⟩:=az h;cases eZ:(bb==want) with
      |true=>simp only[eZ,cond_true] at h ⊢;rw[hb];simp only[cond_true];exact F5 h
      |false=>simp only[eZ,cond_false] at h ⊢;obtain⟨g,hg,rfl⟩:=map_some h;exact⟨Nat.le_refl _,fun _=>by rw[hb,hg];rfl⟩
     ·cases h
    ·have h0:=h;obtain⟨g,hg,rfl⟩:=map_some h;exact⟨Nat.le_refl _,fun _=>h0⟩
    ·cases h
theorem F6{f:XF}{l:List XF}{x x':cT}(h:yG P f l x=some x'):x'.m.c=x.m.c:=by
 unfold yG at h
 split at h
 ·split at h
  ·split at h
   ·rename_i hv;obtain⟨g,_,rfl⟩:=map_some h;exact(l7 hv).2.2.2
   ·cases h
  ·cases h
 ·cases h
theorem CG{x x':cT}(h:nT P B x=some x'):x.m.c≤x'.m.c∧(x'.m.c=x.m.c→nT P B' x=some x'):=by
 unfold nT at h ⊢
 split at h
 ·cases h
 ·split at h
  ·cases h;exact⟨Nat.le_refl _,fun _=>rfl⟩
  ·split at h
   ·split at h
    ·split at h
     ·have h0:=h
      obtain⟨hb,h⟩:=az h;cases h;exact⟨Nat.le_refl _,fun _=>h0⟩
     ·cases h
    ·cases h
   ·exact QU h
   ·exact⟨Nat.le_of_eq (F6 h).symm,fun _=>h⟩
   ·exact⟨Nat.le_of_eq (F6 h).symm,fun _=>h⟩
   ·cases h
theorem CE:∀(n:Nat){x x':cT},nS P B n x=some x'→x.m.c≤x'.m.c∧(x'.m.c=x.m.c→nS P B' n x=some x')
 |0,x,x',h=>by cases h;exact⟨Nat.le_refl _,fun _=>rfl⟩
 |n+1,x,x',h=>by
  simp only[nS] at h ⊢
  split at h
  ·rename_i y hy
   have h1:=CG (B':=B') hy;have h2:=CE n h;refine⟨Nat.le_trans h1.1 h2.1,fun hc=>?_⟩;rw[h1.2 (by omega)];simp only;exact h2.2 (by omega)
  ·cases h
end
def zx(x:cT):Bool:=match x.fs with
 |[f]=>match f.todo with
  |[]=>true
  |.code .ret::_=>true
  |_=>false
 |_=>false
def ru(P:Program)(B:Nat):Nat→cT→Option cT
 |0,_=>none
 |n+1,x=>bif zx x then some x else match nT P B x with
  |some y=>ru P B n y
  |none=>none
theorem sE{P:Program}{B:Nat}:∀(n:Nat){x y:cT},ru P B n x=some y→zx y=true∧∃k,nS P B k x=some y
 |0,x,y,h=>by cases h
 |n+1,x,y,h=>by
  simp only[ru] at h;cases hr:zx x with
  |true=>rw[hr] at h;simp at h;subst h;exact⟨hr,0,rfl⟩
  |false=>
   rw[hr] at h;simp only[cond_false] at h
   split at h
   ·rename_i z hz
    obtain⟨h1,k,h2⟩:=sE n h;exact⟨h1,k+1,by simp only[nS,hz];exact h2⟩
   ·cases h
def Nt(P:Program)(B:Nat)(E:Env)(o:Oper)(x:cT):Option (Value×cT):=
 bif !mo o&&o.op.operands.all (kn E) then
  bif uN o then match x.bs with
   |(_,true)::bs=>match dK P B (execOp (ev E) o) x.m with
    |some (.value v,m)=>some (v,{x with m:=m,bs:=bs})
    |_=>none
   |(_,false)::bs=>match Uv P E o with
    |some (v,i,n)=>some (v,{x with bs:=bs,fI:=(i,n)::x.fI})
    |none=>none
   |[]=>none
  else match dK P B (execOp (ev E) o) x.m with
   |some (.value v,m)=>some (v,{x with m:=m})
   |some (.skip,m)=>some (undef,{x with m:=m})
   |some (.enter _ _,_)=>match cY P (execOp (ev E) o) with
    |some (.enter h args)=>match P.funcs[h]? with
     |some fn=>match fn.body with
      |some c=>match ru P B 2000 {x with fs:=[⟨h,args.size+(fn.ntmps-args.size),[.code c],sG args.toList 0⟩]} with
       |some y=>match y.fs with
        |[f]=>bif f.f==h then(l8 P f y.m).map fun p=>(p.1,{y with m:=p.2}) else none
        |_=>none
       |none=>none
      |none=>none
     |none=>none
    |_=>none
   |_=>none
 else none
def xU(P:Program)(B:Nat)(ops:Array Oper)(E:Env)(o:Oper)(x:cT):Option (Value×cT):=match o.guard with
 |none=>Nt P B E o x
 |some (j,want)=>match (ops[j]?).bind (·.dst) with
  |none=>none
  |some d=>match look E d with
   |some (.bool u)=>match x.bs with
    |(b,s)::bs=>bif !s||(u==b) then
       (bif b==want then Nt P B ((d,.bool b)::E) o {x with bs:=bs,dB:=bif s then x.dB else(u,b)::x.dB} else some (undef,{x with bs:=bs,dB:=bif s then x.dB else(u,b)::x.dB}))
     else none
    |[]=>none
   |some (.tuple _)=>some (undef,x)
   |_=>none
section
variable{P:Program}{main:Bool}{B:Nat}{Ok:Addr→Bool→Prop}{Ψ:Goroutine→World→Prop}
theorem wF{E:Env}{o:Oper}{x y:cT}{v:Value}(h:Nt P B E o x=some (v,y)):Sub x y:=by
 obtain⟨_,h⟩:=az h;cases oN:uN o with
 |true=>
  rw[oN] at h;simp only[cond_true] at h
  split at h
  ·split at h
   ·rename_i hs;cases h;have:=hU _ _ _ _ hs;exact⟨this.1,this.2,fun _ h=>h,fun _ h=>h⟩
   ·cases h
  ·split at h
   ·cases h;exact⟨fun _ h=>h,fun _ h=>h,fun _ h=>h,fun _ h=>List.mem_cons_of_mem _ h⟩
   ·cases h
  ·cases h
 |false=>
  rw[oN] at h;simp only[cond_false] at h
  split at h
  ·rename_i hs;cases h;have:=hU _ _ _ _ hs;exact⟨this.1,this.2,fun _ h=>h,fun _ h=>h⟩
  ·rename_i hs;cases h;have:=hU _ _ _ _ hs;exact⟨this.1,this.2,fun _ h=>h,fun _ h=>h⟩
  ·split at h
   ·split at h
    ·split at h
     ·split at h
      ·rename_i z hz
       split at h
       ·obtain⟨_,h⟩:=az h
        obtain⟨v',hv,e⟩:=map_some h;cases e
        obtain⟨_,k,hk⟩:=sE _ hz;have:=qD _ _ _ hk;have h2:=l7 hv;exact⟨fun p hp=>h2.1 p (this.eqs p hp),fun p hp=>h2.2.1 p (this.aZ p hp),this.dB,this.fI⟩
       ·cases h
      ·cases h
     ·cases h
    ·cases h
   ·cases h
  ·cases h
theorem Gl(F:aC P main (DX Ok) Ψ)(hB:∀(a:Addr)(wr:Bool),B≤a.block→Ok a wr){b:Frame}(hk:b.kind≠.early){E:Env}{o:Oper}{x y:cT}{v:Value}{N:Nat}{a:Act}{w:World}{cs:List Frame}{ops:Array Oper}{i:Nat}{rest:List Nat}{k:List Item}(ho:ops[i]? =some o)(hw:Region.wanted o (yielded ops a.tmps)=true)(h:Nt P B E o x=some (v,y))(hm:oS y)(hA:aO E N a)(hI:Inv Ok B w x.m)(K:∀w',Inv Ok B w' y.m→Fr (Wr x.m.M) w w'→(∀a,Wr y.m.M a→Wr x.m.M a∨w.heap.size≤a.block)→Ψ (G (b.at (a.put o.dst v) (.inRegion ops rest::k)) cs) w'):Ψ (G (b.at a (.inRegion ops (i::rest)::k)) cs) w:=by
 obtain⟨nC,h⟩:=az h;simp only[Bool.and_eq_true,Bool.not_eq_true'] at nC;obtain⟨AA,nC⟩:=nC;have cw:execOp a.eval o=execOp (ev E) o:=execOp_congr AA fun y hy=>hA.eval (Array.all_eq_true_iff_forall_mem.1 nC y hy)
 have fin:∀(v:Value)(m:mJ)(nx:Next),dK P B (execOp (ev E) o) x.m=some (nx,m)→(∀K':Act→World→Prop,∀W,uponK o a K' (.ok nx W)=K' (a.put o.dst v) W)→(∀p∈m.eqs,p.1=p.2)→(∀p∈m.aZ,p.1<p.2)→
  (∀w',Inv Ok B w' m→Fr (Wr x.m.M) w w'→(∀a,Wr m.M a→Wr x.m.M a∨w.heap.size≤a.block)→Ψ (G (b.at (a.put o.dst v) (.inRegion ops rest::k)) cs) w')→Ψ (G (b.at a (.inRegion ops (i::rest)::k)) cs) w:=by
  intro v m nx hs hu R9 WN K;obtain⟨w',iJ,S,h1,h2,h3,h4,h5⟩:=BB hB _ _ _ _ hs R9 WN w #[] hI;refine F.Zk ho hw hk fun d K' hK=>?_
  have e1:=h2 d;have e2:(execOp a.eval o).run P (w.at d)=.ok nx (w'.at d):=by rw[cw,←Sem.runT_fst (es:=#[]),e1]
  have e3:raw P a o (w.at d)=iJ:=by unfold raw Sem.events;rw[cw,e1];simp
  rw[e2,hu];exact hK _ _ S (by rw[e3];exact h3.1) ⟨h3.2 d,K _ h1 h4 h5⟩
 cases oN:uN o with
 |true=>
  rw[oN] at h;simp only[cond_true] at h
  split at h
  ·split at h
   ·rename_i hs;cases h;exact fin _ _ _ hs (fun _ _=>rfl) hm.eqs hm.aZ K
   ·cases h
  ·split at h
   ·rename_i v' ii n hx
    cases h
    have hi:=hm.fI (ii,n) (by simp);have hq:=fG _ _ (Aw hx hi.1 hi.2);refine F.op ho hw hk fun d K' hK=>?_
    have e2:(execOp a.eval o).run P (w.at d)=.ok (.value v) (w.at d):=by rw[cw,←Sem.runT_fst (es:=#[]),hq]
    have e3:raw P a o (w.at d)=#[]:=by unfold raw Sem.events;rw[cw,hq]
    rw[e2];exact hK _ w ⟨by rw[e3];exact DX.still d (by simp),K _ hI (Fr.refl _ _) (fun _ h=>.inl h)⟩
   ·cases h
  ·cases h
 |false=>
  rw[oN] at h;simp only[cond_false] at h
  split at h
  ·rename_i hs;cases h;exact fin _ _ _ hs (fun _ _=>rfl) hm.eqs hm.aZ K
  ·rename_i hs;cases h;exact fin _ _ _ hs (fun _ _=>rfl) hm.eqs hm.aZ K
  ·split at h
   ·rename_i hh args hq
    split at h
    ·rename_i fn oO
     split at h
     ·rename_i c hc
      split at h
      ·rename_i z hz
       split at h
       ·rename_i f hf
        obtain⟨Oh,h⟩:=az h;obtain⟨v',hv,e⟩:=map_some h;cases e
        obtain⟨AD,n,hn⟩:=sE _ hz;have dQ:=fG _ _ hq;refine F.enter (f:=hh) (args:=args) ho hw hk (fun d=>?_) (fun d=>?_) ?_
        ·rw[cw,←Sem.runT_fst (es:=#[]),dQ]
        ·unfold Sem.events;rw[cw,dQ]
        ·obtain⟨aa,e1,e2,e3⟩:=jE (args:=args) oO hc
         have kY:=l7 hv;refine zl (b0:=Frame.enter P hh args .normal) (nU:=[]) (cs0:=b.at a (.inRegion ops (i::rest)::k)::cs) F hB (by show CallKind.normal≠_;decide) n hn ⟨fun p hp=>hm.eqs p (kY.1 p hp),fun p hp=>hm.aZ p (kY.2.1 p hp),hm.dB,hm.fI⟩ ⟨_,aa,_,by rw[←e1],e2,rfl,e3,rfl⟩ hI ?_;intro g' w' qY jU Km Hu;rw[hf] at qY;obtain⟨b1,a1,U8,rfl,dw,r1,r2,r3⟩:=qY;subst r1;subst r3;obtain⟨XQ,tO,vw,uu,J1,RG⟩:=rW hv hm.eqs hm.aZ dw jU.au;have W6:f.f=hh:=by simpa using Oh
         have cL:∀todo,Ψ (G {(Frame.enter P hh args .normal).at a1 todo with mode:=.returning} (b.at a (.inRegion ops (i::rest)::k)::cs)) w':=fun todo=>by
          refine F.wM rfl r2 (fn:=XQ) (by rw[←W6];exact tO) vw uu ?_;rw[Frame.finish_at,ho];exact K _ (jU.same J1 RG) Km (fun ad qy=>Hu ad (by simpa [J1] using qy))
         have ht:f.todo=[]∨∃l,f.todo=.code .ret::l:=by
          unfold zx at AD;rw[hf] at AD;simp only at AD
          split at AD
          ·rename_i e;exact .inl e
          ·rename_i l e;exact .inr ⟨l,e⟩
          ·cases AD
         rcases ht with ht|⟨l,ht⟩
         ·rw[ht];exact F.ctl (fun _=>stepG_end) (cL _)
         ·rw[ht];exact F.ctl (fun _=>stepG_ret') (cL _)
       ·cases h
      ·cases h
     ·cases h
    ·cases h
   ·cases h
  ·cases h
theorem Kx{B':Nat}(n:Nat){x y:cT}(h:ru P B n x=some y):x.m.c≤y.m.c:=by
 obtain⟨_,k,hk⟩:=sE n h;exact(CE (B':=B) k hk).1
theorem CD{B':Nat}:∀(n:Nat){x y:cT},ru P B n x=some y→y.m.c=x.m.c→ru P B' n x=some y
 |0,x,y,h,_=>by cases h
 |n+1,x,y,h,hc=>by
  simp only[ru] at h ⊢;cases hr:zx x with
  |true=>rw[hr] at h;exact h
  |false=>
   rw[hr] at h;simp only[cond_false] at h ⊢
   split at h
   ·rename_i z hz
    have h1:=CG (B':=B') hz;have h2:=Kx (B':=B) n h;rw[h1.2 (by omega)];simp only;exact CD n h (by omega)
   ·cases h
theorem Lx{E:Env}{o:Oper}{x y:cT}{v:Value}(h:Nt P B E o x=some (v,y))(hc:y.m.c=x.m.c)(B':Nat):Nt P B' E o x=some (v,y):=by
 obtain⟨nC,h⟩:=az h;unfold Nt;rw[nC];simp only[cond_true];cases oN:uN o with
 |true=>
  rw[oN] at h;simp only[cond_true] at h ⊢
  split at h
  ·split at h
   ·rename_i hs;cases h;rw[sS (B':=B') _ _ _ _ hs hc]
   ·cases h
  ·exact h
  ·cases h
 |false=>
  rw[oN] at h;simp only[cond_false] at h ⊢
  split at h
  ·rename_i hs;cases h;rw[sS (B':=B') _ _ _ _ hs hc]
  ·rename_i hs;cases h;rw[sS (B':=B') _ _ _ _ hs hc]
  ·have key:∀(s:Sem Next)(y:Next)(m:mJ),cY P s=some y→dK P B' s m=some (y,m):=by
    intro s
    induction s with
    |pure a=>intro y m h;simp[cY] at h;subst h;rfl
    |program k ih=>intro y m h;exact ih _ _ _ h
    |_=>intros;simp_all [cY]
   split at h
   ·rename_i hh args hq
    rw[key _ _ x.m hq];simp only
    split at h
    ·rename_i fn oO
     split at h
     ·rename_i c lR
      split at h
      ·rename_i z hz
       split at h
       ·rename_i f hf
        obtain⟨Oh,h⟩:=az h;obtain⟨v',hv,e⟩:=map_some h;cases e
        have eP:z.m.c=x.m.c:=by have:=(l7 hv).2.2.2;rw[←this];exact hc
        rw[CD (B':=B') _ hz eP];simp only[hf,Oh,cond_true,hv];rfl
       ·cases h
      ·cases h
     ·cases h
    ·cases h
   ·cases h
  ·cases h
variable{ops:Array Oper}
theorem JB{E:Env}{o:Oper}{x y:cT}{v:Value}(h:xU P B ops E o x=some (v,y)):Sub x y:=by
 unfold xU at h
 split at h
 ·exact wF h
 ·rename_i want _
  split at h
  ·cases h
  ·split at h
   ·rename_i u _
    split at h
    ·rename_i bb s bs _
     obtain⟨_,h⟩:=az h;have h0:∀p∈x.dB,p∈(bif s then x.dB else(u,bb)::x.dB):=fun p hp=>by cases s<;>simp[hp]
     cases eZ:(bb==want) with
     |true=>rw[eZ] at h;simp only[cond_true] at h;have:=wF h;exact⟨this.eqs,this.aZ,fun p hp=>this.dB p (h0 p hp),this.fI⟩
     |false=>rw[eZ] at h;simp only[cond_false] at h;cases h;exact⟨fun _ h=>h,fun _ h=>h,h0,fun _ h=>h⟩
    ·cases h
   ·cases h;exact Sub.refl _
   ·cases h
theorem BN{E:Env}{o:Oper}{x y:cT}{v:Value}(h:xU P B ops E o x=some (v,y))(hc:y.m.c=x.m.c)(B':Nat):xU P B' ops E o x=some (v,y):=by
 cases hg:o.guard with
 |none=>simp only[xU,hg] at h ⊢;exact Lx h hc B'
 |some p=>
  obtain⟨j,want⟩:=p;simp only[xU,hg] at h ⊢;cases hd:(ops[j]?).bind (·.dst) with
  |none=>simp only[hd] at h;cases h
  |some d=>
   simp only[hd] at h ⊢;cases hl:look E d with
   |none=>simp only[hl] at h;cases h
   |some z=>
    cases z with
    |bool u=>
     simp only[hl] at h ⊢;cases hb:x.bs with
     |nil=>simp only[hb] at h;cases h
     |cons q bs=>
      obtain⟨bb,s⟩:=q;simp only[hb] at h ⊢;obtain⟨Xn,h⟩:=az h;rw[Xn,cond_true];cases eZ:(bb==want) with
      |true=>rw[eZ,cond_true] at h;rw[cond_true];exact Lx h hc B'
      |false=>rw[eZ,cond_false] at h;rw[cond_false];exact h
    |tuple z=>simp only[hl] at h ⊢;exact h
    |_=>simp only[hl] at h;cases h
theorem tC(F:aC P main (DX Ok) Ψ)(hB:∀(a:Addr)(wr:Bool),B≤a.block→Ok a wr){b:Frame}(hk:b.kind≠.early){E:Env}{o:Oper}{x y:cT}{v:Value}{N:Nat}{a:Act}{w:World}{cs:List Frame}{i:Nat}{rest:List Nat}{k:List Item}(ho:ops[i]? =some o)(h:xU P B ops E o x=some (v,y))(hm:oS y)(hA:aO E N a)(hI:Inv Ok B w x.m)(K:∀w',Inv Ok B w' y.m→Fr (Wr x.m.M) w w'→(∀a,Wr y.m.M a→Wr x.m.M a∨w.heap.size≤a.block)→Ψ (G (b.at (a.put o.dst v) (.inRegion ops rest::k)) cs) w'):Ψ (G (b.at a (.inRegion ops (i::rest)::k)) cs) w:=by
 unfold xU at h
 split at h
 ·rename_i hg
  exact Gl F hB hk ho (by simp[Region.wanted,hg]) h hm hA hI K
 ·rename_i j want hg
  split at h
  ·cases h
  ·rename_i d hd
   split at h
   ·rename_i u hu
    split at h
    ·rename_i bb s bs SD
     obtain⟨hc,h⟩:=az h
     have Rw:u=bb:=Bo hc fun hs=>by
      subst hs
      have gC:(u,bb)∈y.dB:=by
       cases eZ:(bb==want) with
       |true=>rw[eZ] at h;simp only[cond_true] at h;exact(wF h).dB _ (by simp)
       |false=>rw[eZ] at h;simp only[cond_false] at h;cases h;simp
      exact hm.dB _ gC
     subst Rw;have P6:aO ((d,.bool u)::E) N a:=hA.more hu
     have hy:yielded ops a.tmps j=some u:=by
      unfold yielded;rw[hd];simp only[Option.bind_some];rw[hA.val d _ hu]
     cases eZ:(u==want) with
     |true=>
      rw[eZ] at h;simp only[cond_true] at h;have Rv:u=want:=by simpa using eZ
      exact Gl F hB hk ho (by simp[Region.wanted,hg,hy,Rv]) h hm P6 (x:={x with bs:=bs,dB:=_}) hI K
     |false=>
      rw[eZ] at h;simp only[cond_false] at h;cases h;exact F.unwanted ho (by simp[Region.wanted,hg,hy];simpa using eZ) (K _ hI (Fr.refl _ _) (fun _ h=>.inl h))
    ·cases h
   ·rename_i arr hu
    cases h
    have hy:yielded ops a.tmps j=none:=by
     unfold yielded;rw[hd];simp only[Option.bind_some];rw[hA.val d _ hu]
    exact F.unwanted ho (by simp[Region.wanted,hg,hy]) (K _ hI (Fr.refl _ _) (fun _ h=>.inl h))
   ·cases h
end
end Go.Proofs.YtobagnjnbmgidaaGreatDoor
