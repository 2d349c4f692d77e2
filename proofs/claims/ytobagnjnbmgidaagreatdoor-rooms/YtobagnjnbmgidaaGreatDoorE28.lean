import Derived.Test.YtobagnjnbmgidaaGreatDoorA1
import Derived.Test.YtobagnjnbmgidaaGreatDoorN1
import Derived.Deep.AppendSrc
set_option linter.all false
set_option maxHeartbeats 0
set_option maxRecDepth 100000
namespace Go.Proofs.YtobagnjnbmgidaaGreatDoor
open Go.Conc Go.RowKit Tryz
variable{ad ca:Addr}{E:Env}{L:List iN}{U N T c O d e m n p q sc sl t J x:Nat}{base:eP}{news olds:iO}
variable{H:Bool}{D:dh}{I:gi}{b:aC}{a:Act}{k:eC}{R:cO}{w:aj}{C:cm}{i B:Nat}{Q:aN}{o:Oper}{M:aW}{P:aG}
theorem t44:Qc prog 44 48 3 24=true:=by kernel_rfl
theorem t152:Qc prog 152 4 1 1=true:=by kernel_rfl
theorem t156:Qc prog 156 114 1 8=true:=by kernel_rfl
theorem EJ(s:Qc prog t e q T=true)(x:T<=1000)(w:aj)(J:TypeId)(k:olds.length=sl*q)(holds:∀a,base=some a->∀j u,olds[j]? =some u->w.cell? (a.add j)=some u)(l:base=none->sl=0){a:Addr}(I:news.length=m*q)(d:∀j u,news[j]? =some u->w.cell? (a.add j)=some u)(L:∀u∈news,u.oneCell'=true)(K:sc<sl+m)(H:sl+m<10000000):
 ∃p u,(Builtin.append_ #[t,t] J #[.slice base sl sc,.slice (some a) m c]).run prog w=.ok (.slice (some ⟨w.heap.size,0,none⟩) (sl+m) p) (w.drew.alloc (.cells ((olds++news).toArray++u) e))/\sl+m<=p/\u.size=(p-(sl+m))*q/\
  ∀ev∈(Builtin.append_ #[t,t] J #[.slice base sl sc,.slice (some a) m c]).events prog w #[],(∃ad,ev.loc=.cell ad/\ev.write=false/\(ad.block=a.block\/∃b,base=some b/\ad.block=b.block))\/ev=noRoomEvent:=by
 obtain⟨inf,z,r,D,C,q,F,E,u⟩:=kv s;have f:olds.length=sl*inf.size:=by rw[q];exact k
 have i:news.length=m*inf.size:=by rw[q];exact I
 have n:(Builtin.firstCells inf.size sl (.slice base sl sc)).run prog w.drew=.ok olds.toArray w.drew:=by
  cases base with
  |none=>
   have e:olds=[]:=WC (by rw[k,l rfl,Nat.zero_mul]);rw[e];exact run_firstCells_none w.drew inf.size sl sl sc
  |some b=>exact run_firstCells_some (P:=prog) w.drew inf.size sl b sl sc olds f (by simpa using holds b rfl)
 have l:=run_firstCells_some (P:=prog) w.drew inf.size m a m c news i (by simpa using d);have k:=growslice_fits (need:=sl+m) (old:=sc) (bytes:=inf.bytes) (by omega) (by rw[F];exact aT (Nat.mul_le_mul (Nat.le_of_lt H) x) (by decide));have q:=run_append_grow_src (P:=prog) w t t J e inf z r D C base sl sc olds n (.slice (some a) m c) m news (Src.ofSlice w r a m c news i d L) K (by omega) k;refine⟨_,_,q,grownCap_ge w (sl+m) sc e,by rw[size_zeroCells,E],λev o=>?_⟩;have q:¬(sl+m<=sc):=by omega
 have c:¬(9223372036854775807<((sl:Int)+(m:Int))):=by omega
 have k:¬(281474976710656<Builtin.nextslicecap (sl+m) sc*inf.bytes):=by omega
 simp[Builtin.append_,run_underlying r,sizeOf,typeInfo,zeroValue,D,C,Builtin.lenOf,q,c,k,Question.forced,n,l,newRow]at o;rcases events_firstCells_in (P:=prog) (λg=>g=a.block\/∃b,base=some b/\g=b.block) inf.size m _ w.drew _ (λM G p e=>by
  cases e;exact⟨.inl rfl,λj v=>isSome_of_list (w:=w.drew) (by simpa using d) (by rw[i];exact v)⟩) ev o with h|⟨ad,B,A,y⟩
 .rcases events_firstCells_in (P:=prog) (λg=>g=a.block\/∃b,base=some b/\g=b.block) inf.size sl _ w.drew _ (λM G p e=>by
   cases e;exact⟨.inr ⟨_,rfl,rfl⟩,λj v=>isSome_of_list (w:=w.drew) (by simpa using holds _ rfl) (by rw[f];exact v)⟩) ev h with h|⟨ad,B,A,y⟩
  .exact .inr (qC _ _ ev h)
  .exact .inl ⟨ad,B,A,y⟩
 .exact .inl ⟨ad,B,A,y⟩
theorem aB.Om(E:Qc prog t e q T=true)(P:T<=1000)(F:aB prog H (DX D) I)(Y:C[i]? =some o)(W:Region.wanted o (yielded C a.tmps)=true)(L:b.kind≠.early)(s x:Operand)(v:o.op=.call {callee:=.builtin .append,args:=#[s,x],argTypes:=#[t,t]})(U:a.eval s=.slice base sl sc)(S:a.eval x=.slice (some ad) m c)(J:olds.length=sl*q)(holds:∀a,base=some a->∀j u,olds[j]? =some u->w.cell? (a.add j)=some u)(y:base=none->sl=0)(Z:news.length=m*q)(f:∀j u,news[j]? =some u->w.cell? (ad.add j)=some u)(h1:∀u∈news,u.oneCell'=true)(hg:sc<sl+m)(u:sl+m<10000000)(p:∀l,base=some l->l.block<w.heap.size/\∀a:Addr,a.block=l.block->D a false)(r:ad.block<w.heap.size/\∀a:Addr,a.block=ad.block->D a false)(h:∀B n j,sl+m<=B->n.size=(B-(sl+m))*q->w.alloc (.cells ((olds++news).toArray++n) e)=j->I (G (b.at (a.put o.dst (.slice (some ⟨w.heap.size,0,none⟩) (sl+m) B)) (.inRegion C Q::k)) R) j):
 I (G (b.at a (.inRegion C (i::Q)::k)) R) w:=by
 refine F.OA Y W L λd K b=>?_;obtain⟨B,n,a,hc,O,N⟩:=EJ E P (w.at d) o.type (base:=base) (sc:=sc) (a:=ad) (c:=c) J holds y Z f h1 hg u;have A:(w.at d).grownBy ((w.at d).drew.alloc (.cells ((olds++news).toArray++n) e)) none:=⟨rfl,rfl,rfl,by simp,λk L _=>Below.heap_alloc (w.at d).drew _ k L⟩;refine uponK_append s x t v U S a (b _ _ ⟨WG (g:=none) (λev X=>?_) A (λg M=>by cases M) (λad wr z=>by cases z),?_⟩)
 .have V:=mem_listed X;rw[events_append_op s x t v U S]at V;rcases N ev V with ⟨b,c,f,a⟩|c
  .refine .inl ⟨b,c,rfl,?_,?_⟩
   .rw[f];rcases a with a|⟨l,a,b⟩
    .exact r.2 _ a
    .exact(p l a).2 _ b
   .refine c7 ?_ A.size;rcases a with a|⟨l,a,b⟩
    .rw[a];exact r.1
    .rw[b];exact(p l a).1
  .exact .inr c
 .exact F.at' _ (w.alloc (.cells ((olds++news).toArray++n) e)) (d+1) (h B n _ hc O rfl)
theorem EK(a:Qc prog t e q T=true)(w:aj)(J:TypeId)(e:base=none->sl=0){x:eP}(b:sl<=sc):(Builtin.append_ #[t,t] J #[.slice base sl sc,.slice x 0 c]).run prog w=.ok (.slice base sl sc) w/\(Builtin.append_ #[t,t] J #[.slice base sl sc,.slice x 0 c]).events prog w #[]=#[]:=by
 obtain⟨inf,z,f,d,c,c,c,c,c⟩:=kv a;cases x<;>cases base<;>simp[Builtin.append_,run_underlying f,sizeOf,typeInfo,d,Builtin.lenOf,b,Builtin.firstCells,loadCells,loadCellsFrom,storeCells]
theorem aB.app0(j:Qc prog t e q T=true)(F:aB prog H (DX D) I)(y:C[i]? =some o)(q:Region.wanted o (yielded C a.tmps)=true)(B:b.kind≠.early)(s x:Operand)(f:o.op=.call {callee:=.builtin .append,args:=#[s,x],argTypes:=#[t,t]}){n:eP}(r:a.eval s=.slice base sl sc)(p:a.eval x=.slice n 0 c)(A:base=none->sl=0)(e:sl<=sc)(h:I (G (b.at (a.put o.dst (.slice base sl sc)) (.inRegion C Q::k)) R) w):
 I (G (b.at a (.inRegion C (i::Q)::k)) R) w:=by
 refine F.OA y q B λd K b=>?_;obtain⟨a,m⟩:=EK j (w.at d) o.type (x:=n) (c:=c) A e;refine uponK_append s x t f r p a (b _ _ ⟨WG (g:=none) (λev v=>?_) ⟨rfl,rfl,rfl,az _,λ_ _ _=>rfl⟩ (λg l=>by cases l) (λad wr z=>by cases z),F.at' _ _ _ h⟩);have u:=mem_listed v;rw[events_append_op s x t f r p,m]at u;simp at u
def oZ(L:List iN):List Value:=L.flatMap qg
theorem mh:∀L,(oZ L).length=L.length*3
 |[]=>rfl
 |x::L=>by
  have h:=mh L;unfold oZ at*;simp only[DN,YA,h,gB];show 3+_=_;omega
theorem Yx:∀(L:List iN)(j f:Nat),j<L.length->f<3->(oZ L)[j*3+f]? =some ((qg (L.getD j ⟨0,0,0⟩)).getD f undef)
 |[],j,f,h,_=>by simp at h
 |x::L,0,f,_,a=>by
  unfold oZ;rw[DN,nO (by show _<3;omega)];rcases f with _|_|_|f
  .rfl
  .rfl
  .rfl
  .omega
 |x::L,j+1,f,h,a=>by
  have b:=Yx L j f (by simp_all) a;unfold oZ at*;rw[DN,vf (by show 3<=_;omega)];rw[show(j+1)*3+f-(qg x).length=j*3+f by show(j+1)*3+f-3=_;omega,b];rfl
theorem IF(L:List iN):∀u∈oZ L,u.oneCell'=true:=λu a=>by
 obtain⟨x,_,h⟩:=mL.1 a;simp[qg]at h;rcases h with rfl|rfl|rfl<;>rfl
theorem IG(A L:List iN):oZ (A++L)=oZ A++oZ L:=by unfold oZ;simp
theorem Sat.Z3(h:Sat D w M)(d:nth M p=some (gQ ad L)):∀j u,(oZ L)[j]? =some u->w.cell? (ad.add j)=some u:=λj u e=>by
 have a:j<L.length*3:=by rw[<-mh];grind
 have c:j / 3<L.length:=Nat.div_lt_of_lt_mul (by omega);have b:j % 3<3:=Nat.mod_lt _ (by decide);have a:j / 3*3+j % 3=j:=by omega
 have:=h.val p _ d (j / 3,j % 3) ⟨c,b⟩;simp only[aH.get]at this;have f:=Yx L (j / 3) (j % 3) c b;rw[a,e]at f;have b:(ad.add (j / 3*3)).add (j % 3)=ad.add j:=by rw[Addr.add_add,a]
 simp_all
theorem Sat.Wm(h:Sat D w M)(l:HB w.heap.size D)(L:List iN)(a:gd):Sat D (w.alloc (.cells ((oZ L).toArray++a) 48)) (gQ ⟨w.heap.size,0,none⟩ L::M):=by
 have k:=h.new ((oZ L).toArray++a) 48 l;have s:=(sat_iff.1 k).1 _ (bI ..);refine sat_iff.2 ⟨λr b=>?_,dr.2 ⟨λr b u j q i d e=>?_,(dr.1 (sat_iff.1 k).2).2⟩⟩
 .rcases ak.1 b with rfl|b
  .refine⟨λj i=>?_,λj i=>⟨l _ _ (by simp only[add_add];omega),λz=>(by cases z)⟩,λz=>(by cases z),λg e n z=>(by cases z)⟩;obtain⟨j,f⟩:=j;obtain⟨p,o⟩:=i;simp only at p o;have c:j*3+f<(oZ L).length:=by rw[mh];omega
   have m:=s.val (0,j*3+f) ⟨by show 0<1;omega,by show _<((oZ L).toArray++a).size;grind⟩;have t:(Yr w.heap.size 48 ((oZ L).toArray++a)).get (0,j*3+f)=(qg (L.getD j ⟨0,0,0⟩)).getD f undef:=by
    have g:=Yx L j f p o;unfold Yr aH.get;cases x:((oZ L).toArray++a).toList with
    |nil=>simp_all
    |cons v a=>
     grind
   simp only[add_add];rw[t]at m;exact m
  .exact(sat_iff.1 k).1 r (aP _ b)
 .have c:=au (((sat_iff.1 h).1 r b).val q d);simp only[add_add]at e;grind
def Lit(M:aW)(base:eP)(L0:List iN):Prop:=(base=none/\L0=[])\/∃nb y p,base=some ⟨nb,0,none⟩/\L0=[y]/\nth M p=some (bR nb (qg y))
theorem aB.R4(F:aB prog H (DX D) I)(J:HB B D)(A:B<=w.heap.size)(X:C[i]? =some o)(Z:o.guard=none)(v:b.kind=.normal)(s x:Operand)(v:o.op=.call {callee:=.builtin .append,args:=#[s,x],argTypes:=#[44,44]}){L0:List iN}(m:Sat D w M)(V:a.eval s=.slice base L0.length L0.length)(U:a.eval x=.slice (some ad) L.length c)(N:nth M p=some (gQ ad L))(K:Lit M base L0)(c:∀a,base=some a->B<=a.block)(c:L≠[])(W:L0.length+L.length<10000000)(c:B<=ad.block)(h:∀p r c,Sat D c (gQ ⟨p,0,none⟩ (L0++L)::M)->w.heap.size<=p->w.heap.size<=c.heap.size->(L0++L).length<=r->I (G (b.at (a.put o.dst (.slice (some ⟨p,0,none⟩) (L0++L).length r)) (.inRegion C Q::k)) R) c):
 I (G (b.at a (.inRegion C (i::Q)::k)) R) w:=by
 have Y:0<L.length:=by grind
 have E:HB w.heap.size D:=λa wr z=>J a wr (aT A z);refine aB.Om t44 (by decide) F X (by simp[Region.wanted,Z]) (by simp_all) s x v (olds:=oZ L0) (news:=oZ L) V U (mh _) (λa q j u O=>?_) (λz=>?_) (mh _) (m.Z3 N) (IF _) (by omega) W (λb P=>⟨?_,λa q=>J a false (by simp_all)⟩) ⟨?_,λa q=>J a false (by omega)⟩ λr T S a _ l=>?_
 .rcases K with ⟨f,d⟩|⟨g,y,t,f,d,n⟩
  .simp_all
  .rw[f]at q;cases q;subst d;have a:j<3:=(lg.1 O).1;have:=m.val t _ n (0,j) ⟨aD,a⟩;rw[ey,bK];rw[show(⟨g,j,none⟩:Addr)=(bR g (qg y)).ad (0,j)from rfl,this];rw[show oZ [y]=qg y by simp[oZ]]at O;have e:(bR g (qg y)).get (0,j)=(qg y).getD j undef:=rfl;simp_all
 .rcases K with ⟨f,d⟩|⟨g,y,t,f,d,n⟩
  .rw[d];rfl
  simp_all
 .rcases K with ⟨f,d⟩|⟨g,y,t,f,d,n⟩
  .simp_all
  .rw[f]at P;cases P;exact m.lt n (j:=(0,0)) ⟨aD,(by decide:0<3)⟩
 .have:=m.lt N (j:=(0,0)) ⟨Y,(by decide:0<3)⟩;rwa[addBlock,addBlock]at this
 .have:=h w.heap.size r S (by rw[<-l,<-IG];exact m.Wm E _ T) (az _) (by rw[<-l];simp) (by simp_all);rwa[YA]at this
theorem R4(F:aB prog H (DX D) I)(J:HB B D){b:aC}(y:b.kind=.normal){U N c:Nat}{E:Env}{M:aW}{a:Act}{R:cO}{w:aj}{t:eC}(s x d p:Nat){base:eP}{e:Nat}{ad:Addr}{L0 L:List iN}(u:kI t=true)(h:oD (aQ t) s x d 44=true)(z:d<N)(n:look E s=some (.slice base L0.length L0.length))(m:look E x=some (.slice (some ad) L.length e))(o:nth M p=some (gQ ad L))(O:Lit M base L0)(e:B<=U)(j:∀a,base=some a->B<=a.block)(A:L≠[])(f:L0.length+L.length<10000000)(k:B<=ad.block)(S:St D U N E M c a w)(K:∀e g l c,Sat D c (gQ ⟨e,0,none⟩ (L0++L)::M)->U<=e->w.heap.size<=c.heap.size->(L0++L).length<=g->aR ((d,.slice (some ⟨e,0,none⟩) (L0++L).length g)::E) N l->l.defers=a.defers->I (G (b.at l (jB t)) R) c):I (G (b.at a t) R) w:=by
 obtain⟨C,i,r,b,i,d,p⟩:=dH u;obtain⟨u,t,r⟩:=jf h;have b:∀q v,look E q=some v->a.eval (.tmp q)=v:=λq v f=>by rw[S.env.eval (by simp[kn,f])];simp[ev,f]
 rw[i];refine F.R4 J (by rw[S.sz];omega) d u y (.tmp s) (.tmp x) r S.sat (b s _ n) (b x _ m) o O j A f k λe g c d a b a=>?_;rw[<-p,t];exact K e g _ c d (by have:=S.sz;omega) b a (S.env.put z) (put_defers _ _ _)
theorem X7(f:Qc prog J e q T=true)(F:aB prog H (DX D) I)(e:b.kind=.normal){t:eC}(s x d:Nat){e:eP}{h:Nat}(m:kI t=true)(g:oD (aQ t) s x d J=true)(n:d<N)(l:look E s=some (.slice base sl sc))(k:look E x=some (.slice e 0 h))(h:base=none->sl=0)(e:sl<=sc)(S:St D U N E M c a w)(K:∀j,aR ((d,.slice base sl sc)::E) N j->j.defers=a.defers->I (G (b.at j (jB t)) R) w):I (G (b.at a t) R) w:=by
 obtain⟨C,i,r,b,d,c,i⟩:=dH m;obtain⟨p,o,m⟩:=jf g;have b:∀q v,look E q=some v->a.eval (.tmp q)=v:=λq v a=>by rw[S.env.eval (by simp[kn,a])];simp[ev,a]
 rw[d];refine aB.app0 f F c (by simp[Region.wanted,p]) (by simp_all) (.tmp s) (.tmp x) m (b s _ l) (b x _ k) h e ?_;rw[<-i,o];exact K _ (S.env.put n) (put_defers _ _ _)
def Mb(o:Oper)(x d J:Nat):Bool:=o.guard.isNone&&(match o.dst with|some d'=>d'==d|none=>false)&&(match o.op with
 |.slice t (.tmp x') (some (.const (.int .i64 l))) none none=>t==J&&x'==x&&l==1
 |_=>false)
theorem HZ(h:Mb o x d J=true):o.guard=none/\o.dst=some d/\o.op=.slice J (.tmp x) (some (.const (.int .i64 1))) none none:=by
 unfold Mb at h;simp only[bZ]at h;obtain⟨⟨a,a⟩,a⟩:=h;have a:o.guard=none:=by
  simp_all
 grind
theorem vu(a:Qc prog J e n T=true)(w:aj)(b:q+1<=O):(Instr.sliceAt J (.slice (some ca) (q+1) O) (some (.int .i64 1)) none none).run prog w=.ok (.slice (some (if O=1 then ca else ca.add n)) q (O-1)) w/\
 (Instr.sliceAt J (.slice (some ca) (q+1) O) (some (.int .i64 1)) none none).events prog w #[]=#[]:=by
 obtain⟨inf,z,d,c,b,b,e,e,e⟩:=kv a;have a:(1:Int)<=(q:Int)+1:=by omega
 constructor
 .simp[Instr.sliceAt,run_underlying d,Instr.slice,Instr.sliceBounds,Instr.sliceBound,asInt,asIntOf,sizeOf,typeInfo,c,b,a];grind
 .simp[Instr.sliceAt,run_underlying d,Instr.slice,Instr.sliceBounds,Instr.sliceBound,asInt,asIntOf,sizeOf,typeInfo,c,b,a]
theorem Ub(f:Qc prog J e n T=true)(F:aB prog H (DX D) I)(o:b.kind≠.early){t:eC}(x d:Nat)(m:kI t=true)(e:Mb (aQ t) x d J=true)(p:d<N)(k:look E x=some (.slice (some ca) (q+1) O))(h:q+1<=O)(S:St D U N E M c a w)(K:∀j,aR ((d,.slice (some (if O=1 then ca else ca.add n)) q (O-1))::E) N j->j.defers=a.defers->I (G (b.at j (jB t)) R) w):I (G (b.at a t) R) w:=by
 obtain⟨C,i,r,b,l,d,n⟩:=dH m;obtain⟨r,m,i⟩:=HZ e;have b:a.eval (.tmp x)=.slice (some ca) (q+1) O:=by rw[S.env.eval (by simp[kn,k])];simp[ev,k]
 have c:a.eval (.const (.int .i64 1))=.int .i64 1:=rfl;rw[l];refine F.AZ d (by simp[Region.wanted,r]) o (λg=>?_) λg a a=>?_
 .unfold execOp;simp only[i,fI,YU,b,c,YV,(vu f (w.at g) (ca:=ca) h).1,(vu f (w.at g) (ca:=ca) h).2,xg];rfl
 .unfold execOp;simp only[i,fI,YU,b,c,Am,(vu f (w.at g) (ca:=ca) h).1,Hv];refine a _ ?_;rw[<-n,m];exact K _ (S.env.put p) (put_defers _ _ _)
theorem Sat.ZH{Z:aW}(h:Sat D w M)(f:∀i r,nth Z i=some r->r.wr=false/\∃k a,nth M k=some a/\r={a with wr:=false}):Sat D w Z:=by
 have key:∀i r,nth Z i=some r->∃k a,nth M k=some a/\r={a with wr:=false}:=λi r b=>(f i r b).2;refine⟨λi r b j d=>?_,λi r b j d=>?_,λi r m a b m l=>?_,λi r b g e n o=>?_⟩
 .obtain⟨k,a,c,rfl⟩:=key i r b;exact h.val k a c j d
 .obtain⟨k,a,c,rfl⟩:=key i r b;exact⟨(h.ok k a c j d).1,λz=>by cases z⟩
 .rw[(f i r b).1]at l;cases l
 .obtain⟨k,a,c,rfl⟩:=key i r b;exact h.row k a c g e n o
def TY(C:cm)(q dx d:Nat)(E3:Env):Bool:=match C[q+1]? with
 |some o=>(match o.dst with|some d'=>d'==dx|none=>false)&&o.guard.isNone&&!lN o&&o.op.operands.all (kn ((d,undef)::E3))
 |none=>false
theorem MV{u v:ay}{x:Operand}(h:kn ((d,u)::E) x=true):kn ((d,v)::E) x=true:=by
 cases x with
 |tmp t=>
  simp only[kn,look]at h ⊢;cases a:(d==t)with
  |true=>rfl
  |false=>rw[a]at h;exact h
 |_=>exact h
theorem LO{c:Nat}{e:Env}(h:TY C q c d e=true):∃o,C[q+1]? =some o/\o.dst=some c/\o.guard=none/\lN o=false/\∀v,o.op.operands.all (kn ((d,v)::e))=true:=by
 unfold TY at h;split at h
 .rename_i o g;simp only[bZ,mA]at h;obtain⟨⟨⟨a,b⟩,l⟩,k⟩:=h;refine⟨o,g,?_,?_,l,λv=>yJ.2 λx f=>MV (yJ.1 k x f)⟩
  .split at a
   .rename_i m j;rw[j];simp at a;rw[a]
   .cases a
  .cases i:o.guard with
   |none=>rfl
   |some p=>rw[i]at b;cases b
 .cases h
theorem oQ:cV P program=some P:=rfl
theorem rG{α:Type}(c:Prop)[Decidable c](x y:Sem α):cV P (if c then x else y)=if c then cV P x else cV P y:=by split<;>rfl
theorem Jn(d:Nat)(t:TypeId)(k b:IntKind)(a:Int)(h:P.underlying t=some (.int b)):cV P (Op.equalIn (d+1) t (.int k a) (.int k a))=some true:=by
 simp[Op.equalIn,cr,nk _ _ h,gJ]
theorem z8(d:Nat)(t:TypeId)(a:gd){c:Array Field}(h:P.underlying t=some (.struct c))(i:P.stoodInHeld t=false)(b:∀f∈c.toList,∃v,cV P (part f.type a f.offset)=some v/\cV P (Op.equalIn d f.type v v)=some true):
 cV P (Op.equalIn (d+1) t (.agg a) (.agg a))=some true:=by
 simp only[Op.equalIn,cr,nk _ _ h,fJ,oQ,i,sP,if_false];rw[<-Array.forIn_toList];generalize c.toList=l at b;induction l with
 |nil=>rfl
 |cons f l e=>
  obtain⟨v,h,d⟩:=b f (bI ..);have a:=e (λg c=>b g (aP _ c));simp only[List.forIn_cons,cr,rG,h,d,fJ,Bool.not_true,sP,if_false,gJ];split
  .simpa [cr]using a
  .simpa [cr]using a
def zR(P:aG)(t n:Nat):Bool:=match P.underlying t,P.underlying 3 with
 |some (.struct fs),some (.int _)=>!P.stoodInHeld t&&!P.eqGuardType P.depth t&&fs.toList.all (λf=>f.type==3&&Nat.blt f.offset n)&&(match cV P (isAgg 3)with|some b=>!b|none=>false)
 |_,_=>false
theorem ZW(h:zR P t n=true)(x y:Operand)(c:List Int)(l:c.length=n):cV P (do eqGuard .neq t x y (.agg (c.map i6).toArray) (.agg (c.map i6).toArray);binOp .neq t (.agg (c.map i6).toArray) (.agg (c.map i6).toArray))=some (.bool false):=by
 unfold zR at h;split at h
 .rename_i v k j u;simp only[bZ,mA]at h;obtain⟨⟨⟨s,i⟩,r⟩,d⟩:=h;have g:cV P (isAgg 3)=some false:=by
   split at d
   .rename_i b q;rw[q];simp at d;rw[d]
   .cases d
  have m:cV P (eqGuard .neq t x y (.agg (c.map i6).toArray) (.agg (c.map i6).toArray))=some ():=by
   simp only[eqGuard,cr,oQ,fJ,i,rG,gJ];simp[cr,oQ,i,gJ]
  have p:cV P (Op.equalIn 10000 t (.agg (c.map i6).toArray) (.agg (c.map i6).toArray))=some true:=by
   refine z8 9999 t _ j s λf o=>?_;have:=eZ.1 r f o;simp only[bZ,beq_iff_eq,Nat.blt_eq]at this;have e:f.offset<c.length:=by rw[l];exact this.2
   refine⟨i6 c[f.offset],?_,?_⟩
   .rw[this.1];simp only[part,cr,g,fJ,rG,sP,if_false];simp[e,gJ]
   .rw[this.1];exact Jn 9998 3 .i64 k _ u
  rw[cr,m,fJ];show cV P (Op.equalIn 10000 t (.agg (c.map i6).toArray) (.agg (c.map i6).toArray)>>=λa=>pure (Value.bool (!a)))=_;rw[cr,p];rfl
 .cases h
def MN(o:Oper)(x y d t:Nat):Bool:=o.guard.isNone&&(match o.dst with|some d'=>d'==d|none=>false)&&(match o.op with
 |.binOp .neq t' (.tmp x') (.tmp y') _=>t'==t&&x'==x&&y'==y
 |_=>false)
theorem IA{y:Nat}(h:MN o x y d t=true):o.guard=none/\o.dst=some d/\∃c,o.op=.binOp .neq t (.tmp x) (.tmp y) c:=by
 unfold MN at h;simp only[bZ]at h;obtain⟨⟨g,b⟩,a⟩:=h;refine⟨by simpa using g,?_,?_⟩
 .split at b
  .rename_i p f;rw[f];simp at b;rw[b]
  .cases b
 .split at a
  .rename_i n m l c e;simp only[bZ,beq_iff_eq]at a;obtain⟨⟨k,j⟩,i⟩:=a;subst k;subst j;subst i;exact⟨c,e⟩
  .cases a
theorem Xc(F:aB prog H (DX D) I)(n:b.kind=.normal){t:eC}(x y d J:Nat)(e:List Int)(f:zR prog J e.length=true)(l:kI t=true)(g:MN (aQ t) x y d J=true)(o:d<N)(k:look E x=some (.agg (e.map i6).toArray))(j:look E y=some (.agg (e.map i6).toArray))(S:St D U N E M c a w)(K:∀h,aR ((d,.bool false)::E) N h->h.defers=a.defers->I (G (b.at h (jB t)) R) w):I (G (b.at a t) R) w:=by
 obtain⟨C,i,r,b,i,d,m⟩:=dH l;obtain⟨r,p,b,l⟩:=IA g;have b:∀q v,look E q=some v->a.eval (.tmp q)=v:=λq v c=>by rw[S.env.eval (by simp[kn,c])];simp[ev,c]
 have c:cV prog (execOp a.eval (aQ t))=some (.value (.bool false)):=by
  unfold execOp;rw[l];have a:=ZW f (.tmp x) (.tmp y) e rfl;simp only[b x _ k,b y _ j];rw[cr,a];rfl
 have a:=fV _ _ c;rw[i];refine F.AZ d (by simp[Region.wanted,r]) (by rw[n];decide) (λb=>?_) λb b b=>?_
 .unfold Sem.events;rw[a]
 .rw[<-fH (es:=#[]),a];refine b _ ?_;rw[<-m,p];exact K _ (S.env.put o) (put_defers _ _ _)
end Go.Proofs.YtobagnjnbmgidaaGreatDoor
