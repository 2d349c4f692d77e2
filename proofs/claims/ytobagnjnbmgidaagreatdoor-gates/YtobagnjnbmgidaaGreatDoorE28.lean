import Derived.Test.YtobagnjnbmgidaaGreatDoorA1
import Derived.Test.YtobagnjnbmgidaaGreatDoorN1
import Derived.Deep.AppendSrc
set_option linter.all false
set_option maxHeartbeats 0
set_option maxRecDepth 100000
namespace Go.Proofs.YtobagnjnbmgidaaGreatDoor
open Go.Conc Go.RowKit Tryz
variable{ad ca:Addr}{E:Env}{L:List iF}{B' N bt c cap d e m n p q sc sl t ty x:Nat}{base:eN}{news olds:iG}
variable{main:Bool}{Ok:dw}{Ψ:gi}{b:aE}{a:Act}{k:eF}{cs:cW}{w:aj}{C:b9}{i B:Nat}{rest:aP}{o:Oper}{M:aX}{P:aI}
theorem t44:lG prog 44 48 3 24=true:=by kernel_rfl
theorem t152:lG prog 152 4 1 1=true:=by kernel_rfl
theorem FD(J:lG prog t e q bt=true)(O:bt<=1000)(w:aj)(ty:TypeId)(s:olds.length=sl*q)(holds:∀a,base=some a->∀j u,olds[j]? =some u->w.cell? (a.add j)=some u)(v:base=none->sl=0){a:Addr}(hl:news.length=m*q)(f:∀j u,news[j]? =some u->w.cell? (a.add j)=some u)(h1:∀u∈news,u.oneCell'=true)(hg:sc<sl+m)(hq:sl+m<10000000):
 ∃H rs,(Builtin.append_ #[t,t] ty #[.slice base sl sc,.slice (some a) m c]).run prog w=.ok (.slice (some ⟨w.heap.size,0,none⟩) (sl+m) H) (w.drew.alloc (.cells ((olds++news).toArray++rs) e))/\sl+m<=H/\rs.size=(H-(sl+m))*q/\
  ∀ev∈(Builtin.append_ #[t,t] ty #[.slice base sl sc,.slice (some a) m c]).events prog w #[],(∃ad,ev.loc=.cell ad/\ev.write=false/\(ad.block=a.block\/∃b,base=some b/\ad.block=b.block))\/ev=noRoomEvent:=by
 obtain⟨inf,z,I,V,U,T,X,W,y7⟩:=kC J;have l:olds.length=sl*inf.size:=by rw[T];exact s
 have r:news.length=m*inf.size:=by rw[T];exact hl
 have y:(Builtin.firstCells inf.size sl (.slice base sl sc)).run prog w.drew=.ok olds.toArray w.drew:=by
  cases base with
  |none=>
   have e:olds=[]:=Zf (by rw[s,v rfl,Nat.zero_mul]);rw[e];exact run_firstCells_none w.drew inf.size sl sl sc
  |some b=>exact run_firstCells_some (P:=prog) w.drew inf.size sl b sl sc olds l (by simpa using holds b rfl)
 have K:=run_firstCells_some (P:=prog) w.drew inf.size m a m c news r (by simpa using f);have A:=growslice_fits (need:=sl+m) (old:=sc) (bytes:=inf.bytes) (by omega) (by rw[X];exact aT (Nat.mul_le_mul (Nat.le_of_lt hq) O) (by decide));have Z:=run_append_grow_src (P:=prog) w t t ty e inf z I V U base sl sc olds y (.slice (some a) m c) m news (Src.ofSlice w I a m c news r f h1) hg (by omega) A;refine⟨_,_,Z,grownCap_ge w (sl+m) sc e,by rw[size_zeroCells,W],λev D=>?_⟩;have hn:¬(sl+m<=sc):=by omega
 have F:¬(9223372036854775807<((sl:Int)+(m:Int))):=by omega
 have G:¬(281474976710656<Builtin.nextslicecap (sl+m) sc*inf.bytes):=by omega
 simp[Builtin.append_,run_underlying I,sizeOf,typeInfo,zeroValue,V,U,Builtin.lenOf,hn,F,G,Question.forced,y,K,newRow]at D
 rcases events_firstCells_in (P:=prog) (λg=>g=a.block\/∃b,base=some b/\g=b.block) inf.size m _ w.drew _ (λa' Y H e=>by
  cases e
  exact⟨.inl rfl,λj hj=>isSome_of_list (w:=w.drew) (by simpa using f) (by rw[r];exact hj)⟩) ev D with h|⟨ad,S,R,Q⟩
 .rcases events_firstCells_in (P:=prog) (λg=>g=a.block\/∃b,base=some b/\g=b.block) inf.size sl _ w.drew _ (λa' Y H e=>by
   cases e
   exact⟨.inr ⟨_,rfl,rfl⟩,λj hj=>isSome_of_list (w:=w.drew) (by simpa using holds _ rfl) (by rw[l];exact hj)⟩) ev h with h|⟨ad,S,R,Q⟩
  .exact .inr (vN _ _ ev h)
  .exact .inl ⟨ad,S,R,Q⟩
 .exact .inl ⟨ad,S,R,Q⟩
theorem aC.Pz(I:lG prog t e q bt=true)(S:bt<=1000)(F:aC prog main (DX Ok) Ψ)(ho:C[i]? =some o)(Z:Region.wanted o (yielded C a.tmps)=true)(hk:b.kind≠.early)(s x:Operand)(y:o.op=.call {callee:=.builtin .append,args:=#[s,x],argTypes:=#[t,t]})(X:a.eval s=.slice base sl sc)(W:a.eval x=.slice (some ad) m c)(J:olds.length=sl*q)(holds:∀a,base=some a->∀j u,olds[j]? =some u->w.cell? (a.add j)=some u)(A:base=none->sl=0)(hl:news.length=m*q)(l:∀j u,news[j]? =some u->w.cell? (ad.add j)=some u)(h1:∀u∈news,u.oneCell'=true)(hg:sc<sl+m)(hq:sl+m<10000000)(r:∀bb,base=some bb->bb.block<w.heap.size/\∀a:Addr,a.block=bb.block->Ok a false)(v:ad.block<w.heap.size/\∀a:Addr,a.block=ad.block->Ok a false)(h:∀H rs V,sl+m<=H->rs.size=(H-(sl+m))*q->w.alloc (.cells ((olds++news).toArray++rs) e)=V->Ψ (G (b.at (a.put o.dst (.slice (some ⟨w.heap.size,0,none⟩) (sl+m) H)) (.inRegion C rest::k)) cs) V):
 Ψ (G (b.at a (.inRegion C (i::rest)::k)) cs) w:=by
 refine F.NO ho Z hk λd K hK=>?_
 obtain⟨H,rs,hr,hc,R,Q⟩:=FD I S (w.at d) o.type (base:=base) (sc:=sc) (a:=ad) (c:=c) J holds A hl l h1 hg hq;have D:(w.at d).grownBy ((w.at d).drew.alloc (.cells ((olds++news).toArray++rs) e)) none:=⟨rfl,rfl,rfl,by simp,λk hk _=>Below.heap_alloc (w.at d).drew _ k hk⟩;refine uponK_append s x t y X W hr (hK _ _ ⟨jU (g:=none) (λev hv=>?_) D (λg O=>by cases O) (λad wr z=>by cases z),?_⟩)
 .have Y:=mem_listed hv
  rw[events_append_op s x t y X W]at Y;rcases Q ev Y with ⟨U,e1,e2,f⟩|e1
  .refine .inl ⟨U,e1,rfl,?_,?_⟩
   .rw[e2]
    rcases f with f|⟨bb,f,T⟩
    .exact v.2 _ f
    .exact(r bb f).2 _ T
   .refine c7 ?_ D.size
    rcases f with f|⟨bb,f,T⟩
    .rw[f];exact v.1
    .rw[T];exact(r bb f).1
  .exact .inr e1
 .exact F.at' _ (w.alloc (.cells ((olds++news).toArray++rs) e)) (d+1) (h H rs _ hc R rfl)
theorem FE(f:lG prog t e q bt=true)(w:aj)(ty:TypeId)(y:base=none->sl=0){x:eN}(g:sl<=sc):(Builtin.append_ #[t,t] ty #[.slice base sl sc,.slice x 0 c]).run prog w=.ok (.slice base sl sc) w/\(Builtin.append_ #[t,t] ty #[.slice base sl sc,.slice x 0 c]).events prog w #[]=#[]:=by
 obtain⟨inf,z,j,h,v,u,s,r,l⟩:=kC f;cases x<;>cases base<;>simp[Builtin.append_,run_underlying j,sizeOf,typeInfo,h,Builtin.lenOf,g,Builtin.firstCells,loadCells,loadCellsFrom,storeCells]
theorem aC.app0(j:lG prog t e q bt=true)(F:aC prog main (DX Ok) Ψ)(ho:C[i]? =some o)(H:Region.wanted o (yielded C a.tmps)=true)(hk:b.kind≠.early)(s x:Operand)(f:o.op=.call {callee:=.builtin .append,args:=#[s,x],argTypes:=#[t,t]}){v:eN}(A:a.eval s=.slice base sl sc)(y:a.eval x=.slice v 0 c)(O:base=none->sl=0)(l:sl<=sc)(h:Ψ (G (b.at (a.put o.dst (.slice base sl sc)) (.inRegion C rest::k)) cs) w):
 Ψ (G (b.at a (.inRegion C (i::rest)::k)) cs) w:=by
 refine F.NO ho H hk λd K Q=>?_
 obtain⟨J,u⟩:=FE j (w.at d) o.type (x:=v) (c:=c) O l;refine uponK_append s x t f A y J (Q _ _ ⟨jU (g:=none) (λev I=>?_) ⟨rfl,rfl,rfl,az _,λ_ _ _=>rfl⟩ (λg r=>by cases r) (λad wr z=>by cases z),F.at' _ _ _ h⟩);have D:=mem_listed I;rw[events_append_op s x t f A y,u]at D
 simp at D
def pN(L:List iF):List Value:=L.flatMap qA
theorem mu:∀L,(pN L).length=L.length*3
 |[]=>rfl
 |x::L=>by
  have h:=mu L;unfold pN at*;simp only[EC,qt,h,eG]
  show 3+_=_
  omega
theorem qS:∀(L:List iF)(j f:Nat),j<L.length->f<3->(pN L)[j*3+f]? =some ((qA (L.getD j ⟨0,0,0⟩)).getD f undef)
 |[],j,f,h,_=>by simp at h
 |x::L,0,f,_,g=>by
  unfold pN;rw[EC,oZ (by show _<3;omega)];rcases f with _|_|_|f
  .rfl
  .rfl
  .rfl
  .omega
 |x::L,j+1,f,h,g=>by
  have l:=qS L j f (by simpa using h) g;unfold pN at*;rw[EC,rH (by show 3<=_;omega)];rw[show(j+1)*3+f-(qA x).length=j*3+f by show(j+1)*3+f-3=_;omega,l]
  rfl
theorem Jz(L:List iF):∀u∈pN L,u.oneCell'=true:=λu f=>by
 obtain⟨x,_,h⟩:=nV.1 f;simp[qA]at h;rcases h with rfl|rfl|rfl<;>rfl
theorem JA(A L:List iF):pN (A++L)=pN A++pN L:=by unfold pN;simp
theorem Sat.lns(h:Sat Ok w M)(s:nth M p=some (gZ ad L)):∀j u,(pN L)[j]? =some u->w.cell? (ad.add j)=some u:=λj u hj=>by
 have v:j<L.length*3:=by rw[<-mu];exact(nS.1 hj).1
 have r:j / 3<L.length:=Nat.div_lt_of_lt_mul (by omega);have g:j % 3<3:=Nat.mod_lt _ (by decide);have f:j / 3*3+j % 3=j:=by omega
 have:=h.val p _ s (j / 3,j % 3) ⟨r,g⟩;simp only[aJ.get]at this;have l:=qS L (j / 3) (j % 3) r g;rw[f,hj]at l;have ea:(ad.add (j / 3*3)).add (j % 3)=ad.add j:=by rw[Addr.add_add,f]
 rw[<-ea,this,Option.some.inj l]
theorem Sat.Y1(h:Sat Ok w M)(hB:HB w.heap.size Ok)(L:List iF)(rs:fW):Sat Ok (w.alloc (.cells ((pN L).toArray++rs) 48)) (gZ ⟨w.heap.size,0,none⟩ L::M):=by
 have y:=h.new ((pN L).toArray++rs) 48 hB;have G:=(sat_iff.1 y).1 _ (bS ..);refine sat_iff.2 ⟨λr s=>?_,dI.2 ⟨λr s J j j' hj u e=>?_,(dI.1 (sat_iff.1 y).2).2⟩⟩
 .rcases ak.1 s with rfl|s
  .refine⟨λj hj=>?_,λj hj=>⟨hB _ _ (by simp only[add_add];exact az _),λz=>(by cases z)⟩,λz=>(by cases z),λg e n z=>(by cases z)⟩
   obtain⟨j,f⟩:=j;obtain⟨F,D⟩:=hj
   simp only at F D
   have l:j*3+f<(pN L).length:=by rw[mu];omega
   have A:=G.val (0,j*3+f) ⟨by show 0<1;omega,by show _<((pN L).toArray++rs).size;simp only[zy,vn];omega⟩
   have I:(lf w.heap.size 48 ((pN L).toArray++rs)).get (0,j*3+f)=(qA (L.getD j ⟨0,0,0⟩)).getD f undef:=by
    have H:=qS L j f F D;unfold lf aJ.get;cases hl:((pN L).toArray++rs).toList with
    |nil=>simp at hl;rw[hl.1]at l;simp at l
    |cons v vs=>
     simp only
     rw[<-hl];simp only[Array.toList_append,o8,oZ l,H,cK]
   simp only[add_add];rw[I]at A;exact A
  .exact(sat_iff.1 y).1 r (aO _ s)
 .have l:=au (((sat_iff.1 h).1 r s).val j' u)
  simp only[add_add]at e;rw[<-e]at l;simp at l
def Lit(M:aX)(base:eN)(L0:List iF):Prop:=(base=none/\L0=[])\/∃nb y p,base=some ⟨nb,0,none⟩/\L0=[y]/\nth M p=some (bR nb (qA y))
theorem aC.Ut(F:aC prog main (DX Ok) Ψ)(hB:HB B Ok)(R:B<=w.heap.size)(ho:C[i]? =some o)(Z:o.guard=none)(hk:b.kind=.normal)(s x:Operand)(J:o.op=.call {callee:=.builtin .append,args:=#[s,x],argTypes:=#[44,44]}){L0:List iF}(A:Sat Ok w M)(X:a.eval s=.slice base L0.length L0.length)(W:a.eval x=.slice (some ad) L.length c)(U:nth M p=some (gZ ad L))(T:Lit M base L0)(K:∀a,base=some a->B<=a.block)(hL:L≠[])(Y:L0.length+L.length<10000000)(Q:B<=ad.block)(h:∀g' H w',Sat Ok w' (gZ ⟨g',0,none⟩ (L0++L)::M)->w.heap.size<=g'->w.heap.size<=w'.heap.size->(L0++L).length<=H->Ψ (G (b.at (a.put o.dst (.slice (some ⟨g',0,none⟩) (L0++L).length H)) (.inRegion C rest::k)) cs) w'):
 Ψ (G (b.at a (.inRegion C (i::rest)::k)) cs) w:=by
 have hl:0<L.length:=by cases L with|nil=>exact absurd rfl hL|cons=>simp
 have S:HB w.heap.size Ok:=λa wr z=>hB a wr (aT R z)
 refine aC.Pz t44 (by decide) F ho (by simp[Region.wanted,Z]) (by rw[hk];decide) s x J (olds:=pN L0) (news:=pN L) X W (mu _) (λa g j u hj=>?_) (λz=>?_) (mu _) (A.lns U) (Jz _) (by omega) Y (λbb v=>⟨?_,λa g=>hB a false (by rw[g];exact K bb v)⟩) ⟨?_,λa g=>hB a false (by rw[g];exact Q)⟩ λH rs V hc _ r=>?_
 .rcases T with ⟨f,l⟩|⟨nb,y,I,f,l,D⟩
  .rw[f]at g;cases g
  .rw[f]at g;cases g
   subst l;have O:j<3:=(nS.1 hj).1;have:=A.val I _ D (0,j) ⟨aG,O⟩;rw[dJ,bD];rw[show(⟨nb,j,none⟩:Addr)=(bR nb (qA y)).ad (0,j)from rfl,this];rw[show pN [y]=qA y by simp[pN]]at hj;have e:(bR nb (qA y)).get (0,j)=(qA y).getD j undef:=rfl;rw[e,o8,hj];rfl
 .rcases T with ⟨f,l⟩|⟨nb,y,I,f,l,D⟩
  .rw[l];rfl
  .rw[f]at z;cases z
 .rcases T with ⟨f,l⟩|⟨nb,y,I,f,l,D⟩
  .rw[f]at v;cases v
  .rw[f]at v;cases v
   exact A.lt D (j:=(0,0)) ⟨aG,(by decide:0<3)⟩
 .have:=A.lt U (j:=(0,0)) ⟨hl,(by decide:0<3)⟩
  rwa[addBlock,addBlock]at this
 .have:=h w.heap.size H V (by rw[<-r,<-JA];exact A.Y1 S _ rs) (az _) (by rw[<-r];simp) (by rw[qt];exact hc)
  rwa[qt]at this
theorem Ut(F:aC prog main (DX Ok) Ψ)(hB:HB B Ok){b:aE}(hk:b.kind=.normal){B' N c:Nat}{E:Env}{M:aX}{a:Act}{cs:cW}{w:aj}{t:eF}(s x d p:Nat){base:eN}{Z:Nat}{ad:Addr}{L0 L:List iF}(ho:lm t=true)(j:oM (aQ t) s x d 44=true)(R:d<N)(J:look E s=some (.slice base L0.length L0.length))(H:look E x=some (.slice (some ad) L.length Z))(O:nth M p=some (gZ ad L))(V:Lit M base L0)(U:B<=B')(u:∀a,base=some a->B<=a.block)(T:L≠[])(g:L0.length+L.length<10000000)(y:B<=ad.block)(S:St Ok B' N E M c a w)(K:∀g' h a' w',Sat Ok w' (gZ ⟨g',0,none⟩ (L0++L)::M)->B'<=g'->w.heap.size<=w'.heap.size->(L0++L).length<=h->aN ((d,.slice (some ⟨g',0,none⟩) (L0++L).length h)::E) N a'->a'.defers=a.defers->Ψ (G (b.at a' (jY t)) cs) w'):Ψ (G (b.at a t) cs) w:=by
 obtain⟨C,i,r,kk,I,l,Q⟩:=dO ho;obtain⟨Y,X,W⟩:=iZ j;have f:∀q v,look E q=some v->a.eval (.tmp q)=v:=λq v g=>by rw[S.env.eval (by simp[kn,g])];simp[ev,g]
 rw[I];refine F.Ut hB (by rw[S.sz];omega) l Y hk (.tmp s) (.tmp x) W S.sat (f s _ J) (f x _ H) O V u T g y λg' h w' D q2 A z=>?_
 rw[<-Q,X];exact K g' h _ w' D (by have:=S.sz;omega) A z (S.env.put R) (put_defers _ _ _)
theorem ap0(g:lG prog ty e q bt=true)(F:aC prog main (DX Ok) Ψ)(hk:b.kind=.normal){t:eF}(s x d:Nat){z:eN}{T:Nat}(ho:lm t=true)(j:oM (aQ t) s x d ty=true)(J:d<N)(H:look E s=some (.slice base sl sc))(A:look E x=some (.slice z 0 T))(u:base=none->sl=0)(h:sl<=sc)(S:St Ok B' N E M c a w)(K:∀a',aN ((d,.slice base sl sc)::E) N a'->a'.defers=a.defers->Ψ (G (b.at a' (jY t)) cs) w):Ψ (G (b.at a t) cs) w:=by
 obtain⟨C,i,r,kk,D,l,I⟩:=dO ho;obtain⟨R,Q,O⟩:=iZ j;have f:∀q v,look E q=some v->a.eval (.tmp q)=v:=λq v y=>by rw[S.env.eval (by simp[kn,y])];simp[ev,y]
 rw[D];refine aC.app0 g F l (by simp[Region.wanted,R]) (by rw[hk];decide) (.tmp s) (.tmp x) O (f s _ H) (f x _ A) u h ?_;rw[<-I,Q];exact K _ (S.env.put J) (put_defers _ _ _)
def Nl(o:Oper)(x d ty:Nat):Bool:=o.guard.isNone&&(match o.dst with|some d'=>d'==d|none=>false)&&(match o.op with
 |.slice t (.tmp x') (some (.const (.int .i64 l))) none none=>t==ty&&x'==x&&l==1
 |_=>false)
theorem I0(h:Nl o x d ty=true):o.guard=none/\o.dst=some d/\o.op=.slice ty (.tmp x) (some (.const (.int .i64 1))) none none:=by
 unfold Nl at h;simp only[cq]at h;obtain⟨⟨r,g⟩,f⟩:=h
 have j:o.guard=none:=by
  cases j:o.guard with
  |none=>rfl
  |some p=>rw[j]at r;cases r
 refine⟨j,?_,?_⟩
 .split at g
  .rename_i u s;rw[s];simp at g;rw[g]
  .cases g
 .split at f
  .rename_i t x' l ho
   simp only[cq,beq_iff_eq]at f;rw[ho,f.1.1,f.1.2,f.2]
  .cases f
theorem vG(f:lG prog ty e n bt=true)(w:aj)(y:q+1<=cap):(Instr.sliceAt ty (.slice (some ca) (q+1) cap) (some (.int .i64 1)) none none).run prog w=.ok (.slice (some (if cap=1 then ca else ca.add n)) q (cap-1)) w/\
 (Instr.sliceAt ty (.slice (some ca) (q+1) cap) (some (.int .i64 1)) none none).events prog w #[]=#[]:=by
 obtain⟨inf,z,j,h,v,g,u,s,r⟩:=kC f;have l:(1:Int)<=(q:Int)+1:=by omega
 constructor
 .simp[Instr.sliceAt,run_underlying j,Instr.slice,Instr.sliceBounds,Instr.sliceBound,asInt,asIntOf,sizeOf,typeInfo,h,g,l]
  split<;>rfl
 .simp[Instr.sliceAt,run_underlying j,Instr.slice,Instr.sliceBounds,Instr.sliceBound,asInt,asIntOf,sizeOf,typeInfo,h,g,l]
theorem Zx(f:lG prog ty e n bt=true)(F:aC prog main (DX Ok) Ψ)(hk:b.kind=.normal){t:eF}(x d:Nat)(ho:lm t=true)(l:Nl (aQ t) x d ty=true)(A:d<N)(u:look E x=some (.slice (some ca) (q+1) cap))(hc:q+1<=cap)(S:St Ok B' N E M c a w)(K:∀a',aN ((d,.slice (some (if cap=1 then ca else ca.add n)) q (cap-1))::E) N a'->a'.defers=a.defers->Ψ (G (b.at a' (jY t)) cs) w):Ψ (G (b.at a t) cs) w:=by
 obtain⟨C,i,r,kk,y,s,z⟩:=dO ho;obtain⟨I,H,v⟩:=I0 l;have g:a.eval (.tmp x)=.slice (some ca) (q+1) cap:=by rw[S.env.eval (by simp[kn,u])];simp[ev,u]
 have h:a.eval (.const (.int .i64 1))=.int .i64 1:=rfl;rw[y];refine F.Ac s (by simp[Region.wanted,I]) (by rw[hk];decide) (λj=>?_) λj K' D=>?_
 .unfold execOp;simp only[v,fy,xA,g,h,xB,(vG f (w.at j) (ca:=ca) hc).1,(vG f (w.at j) (ca:=ca) hc).2,xE];rfl
 .unfold execOp;simp only[v,fy,xA,g,h,A9,(vG f (w.at j) (ca:=ca) hc).1,It]
  refine D _ ?_;rw[<-z,H];exact K _ (S.env.put A) (put_defers _ _ _)
theorem Sat.roZ{Z:aX}(h:Sat Ok w M)(l:∀i r,nth Z i=some r->r.wr=false/\∃k r',nth M k=some r'/\r={r' with wr:=false}):Sat Ok w Z:=by
 have key:∀i r,nth Z i=some r->∃k r',nth M k=some r'/\r={r' with wr:=false}:=λi r f=>(l i r f).2
 refine⟨λi r f j hj=>?_,λi r f j hj=>?_,λi r y r' f u s=>?_,λi r f g e n v=>?_⟩
 .obtain⟨k,r',hk,rfl⟩:=key i r f;exact h.val k r' hk j hj
 .obtain⟨k,r',hk,rfl⟩:=key i r f;exact⟨(h.ok k r' hk j hj).1,λz=>by cases z⟩
 .rw[(l i r f).1]at s;cases s
 .obtain⟨k,r',hk,rfl⟩:=key i r f;exact h.row k r' hk g e n v
def VV(C:b9)(q dx d:Nat)(E3:Env):Bool:=match C[q+1]? with
 |some o=>(match o.dst with|some d'=>d'==dx|none=>false)&&o.guard.isNone&&!lU o&&o.op.operands.all (kn ((d,undef)::E3))
 |none=>false
theorem N3{u v:ay}{x:Operand}(h:kn ((d,u)::E) x=true):kn ((d,v)::E) x=true:=by
 cases x with
 |tmp t=>
  simp only[kn,look]at h ⊢;cases f:(d==t)with
  |true=>rfl
  |false=>rw[f]at h;exact h
 |_=>exact h
theorem M5{j:Nat}{l:Env}(h:VV C q j d l=true):∃o,C[q+1]? =some o/\o.dst=some j/\o.guard=none/\lU o=false/\∀v,o.op.operands.all (kn ((d,v)::l))=true:=by
 unfold VV at h
 split at h
 .rename_i o ho
  simp only[cq,mF]at h;obtain⟨⟨⟨f,g⟩,z⟩,y⟩:=h;refine⟨o,ho,?_,?_,z,λv=>zC.2 λx r=>N3 (zC.1 y x r)⟩
  .split at f
   .rename_i A u;rw[u];simp at f;rw[f]
   .cases f
  .cases s:o.guard with
   |none=>rfl
   |some p=>rw[s]at g;cases g
 .cases h
theorem pE:cS P program=some P:=rfl
theorem rV{α:Type}(c:Prop)[Decidable c](x y:Sem α):cS P (if c then x else y)=if c then cS P x else cS P y:=by split<;>rfl
theorem Kh(d:Nat)(t:TypeId)(k f:IntKind)(a:Int)(h:P.underlying t=some (.int f)):cS P (Op.equalIn (d+1) t (.int k a) (.int k a))=some true:=by
 simp[Op.equalIn,cy,ni _ _ h,gB]
theorem AO(d:Nat)(t:TypeId)(xs:fW){fs:Array Field}(s:P.underlying t=some (.struct fs))(u:P.stoodInHeld t=false)(j:∀f∈fs.toList,∃v,cS P (part f.type xs f.offset)=some v/\cS P (Op.equalIn d f.type v v)=some true):
 cS P (Op.equalIn (d+1) t (.agg xs) (.agg xs))=some true:=by
 simp only[Op.equalIn,cy,ni _ _ s,fA,pE,u,tG,if_false];rw[<-Array.forIn_toList];generalize fs.toList=l at j
 induction l with
 |nil=>rfl
 |cons f l r=>
  obtain⟨v,A,z⟩:=j f (bS ..);have h:=r (λg y=>j g (aO _ y));simp only[List.forIn_cons,cy,rV,A,z,fA,Bool.not_true,tG,if_false,gB]
  split
  .simpa [cy]using h
  .simpa [cy]using h
def Am(P:aI)(t n:Nat):Bool:=match P.underlying t,P.underlying 3 with
 |some (.struct fs),some (.int _)=>!P.stoodInHeld t&&!P.eqGuardType P.depth t&&fs.toList.all (λf=>f.type==3&&Nat.blt f.offset n)&&(match cS P (isAgg 3)with|some b=>!b|none=>false)
 |_,_=>false
theorem neQ(h:Am P t n=true)(x y:Operand)(zs:List Int)(u:zs.length=n):cS P (do eqGuard .neq t x y (.agg (zs.map i6).toArray) (.agg (zs.map i6).toArray);binOp .neq t (.agg (zs.map i6).toArray) (.agg (zs.map i6).toArray))=some (.bool false):=by
 unfold Am at h
 split at h
 .rename_i fs k s H
  simp only[cq,mF]at h;obtain⟨⟨⟨G,r⟩,F⟩,g⟩:=h
  have l:cS P (isAgg 3)=some false:=by
   split at g
   .rename_i b D;rw[D];simp at g;rw[g]
   .cases g
  have v:cS P (eqGuard .neq t x y (.agg (zs.map i6).toArray) (.agg (zs.map i6).toArray))=some ():=by
   simp only[eqGuard,cy,pE,fA,r,rV,gB];simp[cy,pE,r,gB]
  have A:cS P (Op.equalIn 10000 t (.agg (zs.map i6).toArray) (.agg (zs.map i6).toArray))=some true:=by
   refine AO 9999 t _ s G λf z=>?_
   have:=eP.1 F f z;simp only[cq,beq_iff_eq,Nat.blt_eq]at this;have j:f.offset<zs.length:=by rw[u];exact this.2
   refine⟨i6 zs[f.offset],?_,?_⟩
   .rw[this.1]
    simp only[part,cy,l,fA,rV,tG,if_false];simp[j,gB]
   .rw[this.1];exact Kh 9998 3 .i64 k _ H
  rw[cy,v,fA]
  show cS P (Op.equalIn 10000 t (.agg (zs.map i6).toArray) (.agg (zs.map i6).toArray)>>=λa=>pure (Value.bool (!a)))=_
  rw[cy,A];rfl
 .cases h
def NX(o:Oper)(x y d t:Nat):Bool:=o.guard.isNone&&(match o.dst with|some d'=>d'==d|none=>false)&&(match o.op with
 |.binOp .neq t' (.tmp x') (.tmp y') _=>t'==t&&x'==x&&y'==y
 |_=>false)
theorem Jw{y:Nat}(h:NX o x y d t=true):o.guard=none/\o.dst=some d/\∃j,o.op=.binOp .neq t (.tmp x) (.tmp y) j:=by
 unfold NX at h;simp only[cq]at h;obtain⟨⟨r,g⟩,f⟩:=h;refine⟨by simpa using r,?_,?_⟩
 .split at g
  .rename_i D l;rw[l];simp at g;rw[g]
  .cases g
 .split at f
  .rename_i A x' z j ho
   simp only[cq,beq_iff_eq]at f;obtain⟨⟨v,u⟩,s⟩:=f;subst v;subst u;subst s;exact⟨j,ho⟩
  .cases f
theorem ZI(F:aC prog main (DX Ok) Ψ)(hk:b.kind=.normal){t:eF}(x y d ty:Nat)(zs:List Int)(j:Am prog ty zs.length=true)(ho:lm t=true)(l:NX (aQ t) x y d ty=true)(H:d<N)(z:look E x=some (.agg (zs.map i6).toArray))(u:look E y=some (.agg (zs.map i6).toArray))(S:St Ok B' N E M c a w)(K:∀a',aN ((d,.bool false)::E) N a'->a'.defers=a.defers->Ψ (G (b.at a' (jY t)) cs) w):Ψ (G (b.at a t) cs) w:=by
 obtain⟨C,i,r,kk,A,s,D⟩:=dO ho;obtain⟨R,Q,U,O⟩:=Jw l;have g:∀q v,look E q=some v->a.eval (.tmp q)=v:=λq v h=>by rw[S.env.eval (by simp[kn,h])];simp[ev,h]
 have h:cS prog (execOp a.eval (aQ t))=some (.value (.bool false)):=by
  unfold execOp;rw[O];have J:=neQ j (.tmp x) (.tmp y) zs rfl;simp only[g x _ z,g y _ u];rw[cy,J];rfl
 have f:=fP _ _ h;rw[A];refine F.Ac s (by simp[Region.wanted,R]) (by rw[hk];decide) (λT=>?_) λT K' I=>?_
 .unfold Sem.events;rw[f]
 .rw[<-fu (es:=#[]),f]
  refine I _ ?_;rw[<-D,Q];exact K _ (S.env.put H) (put_defers _ _ _)
end Go.Proofs.YtobagnjnbmgidaaGreatDoor
