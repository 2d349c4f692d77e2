import Derived.Test.YtobagnjnbmgidaaGreatDoorA1
import Derived.Test.YtobagnjnbmgidaaGreatDoorN1
import Derived.Deep.AppendSrc
import Derived.Test.YtobagnjnbmgidaaGreatDoorE31
set_option linter.all false
set_option maxHeartbeats 2000000
set_option maxRecDepth 100000
namespace Go.Proofs.YtobagnjnbmgidaaGreatDoor
open Go.Conc Go.RowKit Tryz
theorem FZ(w:World)(ty:TypeId){base:Option Addr}{sl sc:Nat}{olds:List Value}(UE:olds.length=sl*3)(holds:∀a,base=some a→∀j u,olds[j]? =some u→w.cell? (a.add j)=some u)(ji:base=none→sl=0){a:Addr}{m c:Nat}{news:List Value}(hl:news.length=m*3)(gz:∀j u,news[j]? =some u→w.cell? (a.add j)=some u)(h1:∀u∈news,u.oneCell'=true)(hg:sc<sl+m)(hq:sl+m<10000000):
 ∃c' rs,(Builtin.append_ #[44,44] ty #[.slice base sl sc,.slice (some a) m c]).run prog w=.ok (.slice (some ⟨w.heap.size,0,none⟩) (sl+m) c') (w.drew.alloc (.cells ((olds++news).toArray++rs) 48))∧sl+m≤c'∧
  ∀ev∈(Builtin.append_ #[44,44] ty #[.slice base sl sc,.slice (some a) m c]).events prog w #[],(∃ad,ev.loc=.cell ad∧ev.write=false∧(ad.block=a.block∨∃b,base=some b∧ad.block=b.block))∨ev=noRoomEvent:=by
 obtain⟨inf,z,y1,y2,y3,y4,y5,y6,y7⟩:=oX (show vY prog 44 48 3 24=true by kernel_rfl);have RP:olds.length=sl*inf.size:=by rw[y4];exact UE
 have dr:news.length=m*inf.size:=by rw[y4];exact hl
 have AV:(Builtin.firstCells inf.size sl (.slice base sl sc)).run prog w.drew=.ok olds.toArray w.drew:=by
  cases base with
  |none=>
   have e:olds=[]:=List.eq_nil_of_length_eq_zero (by rw[UE,ji rfl]);rw[e];exact run_firstCells_none w.drew inf.size sl sl sc
  |some b=>exact run_firstCells_some (P:=prog) w.drew inf.size sl b sl sc olds RP (by simpa using holds b rfl)
 have oO:=run_firstCells_some (P:=prog) w.drew inf.size m a m c news dr (by simpa using gz);have AW:=growslice_fits (need:=sl+m) (old:=sc) (bytes:=inf.bytes) (by omega) (by rw[y5];omega);have hr:=run_append_grow_src (P:=prog) w 44 44 ty 48 inf z vg y2 y3 base sl sc olds AV (.slice (some a) m c) m news (Src.ofSlice w vg a m c news dr gz h1) hg (by omega) AW;refine⟨_,_,hr,grownCap_ge w (sl+m) sc 48,fun ev dS=>?_⟩;have hn:¬(sl+m≤sc):=by omega
 have Ox:¬(9223372036854775807<((sl:Int)+(m:Int))):=by omega
 have xp:¬(281474976710656<Builtin.nextslicecap (sl+m) sc*inf.bytes):=by omega
 simp[Builtin.append_,run_underlying vg,sizeOf,typeInfo,zeroValue,y2,y3,Builtin.lenOf,hn,Ox,xp,Question.forced,AV,oO,newRow] at dS
 rcases events_firstCells_in (P:=prog) (fun g=>g=a.block∨∃b,base=some b∧g=b.block) inf.size m _ w.drew _ (fun a' l' c' e=>by
  cases e
  exact⟨.inl rfl,fun j hj=>isSome_of_list (w:=w.drew) (by simpa using gz) (by rw[dr];exact hj)⟩) ev dS with h|⟨ad,a1,a2,a3⟩
 ·rcases events_firstCells_in (P:=prog) (fun g=>g=a.block∨∃b,base=some b∧g=b.block) inf.size sl _ w.drew _ (fun a' l' c' e=>by
   cases e
   exact⟨.inr ⟨_,rfl,rfl⟩,fun j hj=>isSome_of_list (w:=w.drew) (by simpa using holds _ rfl) (by rw[RP];exact hj)⟩) ev h with h|⟨ad,a1,a2,a3⟩
  ·exact .inr (wC _ _ ev h)
  ·exact .inl ⟨ad,a1,a2,a3⟩
 ·exact .inl ⟨ad,a1,a2,a3⟩
section
variable{main:Bool}{Ok:Addr→Bool→Prop}{Ψ:Goroutine→World→Prop}{b:Frame}{a:Act}{k:List Item}{cs:List Frame}{w:World}{ops:Array Oper}{i:Nat}{rest:List Nat}{o:Oper}
theorem aC.Yc(F:aC prog main (DX Ok) Ψ)(ho:ops[i]? =some o)(hw:Region.wanted o (yielded ops a.tmps)=true)(hk:b.kind≠.early)(s x:Operand)(aQ:o.op=.call {callee:=.builtin .append,args:=#[s,x],argTypes:=#[44,44]}){base:Option Addr}{sl sc m c:Nat}{ad:Addr}{olds news:List Value}(hs:a.eval s=.slice base sl sc)(hx:a.eval x=.slice (some ad) m c)(UE:olds.length=sl*3)(holds:∀a,base=some a→∀j u,olds[j]? =some u→w.cell? (a.add j)=some u)(ji:base=none→sl=0)(hl:news.length=m*3)(gz:∀j u,news[j]? =some u→w.cell? (ad.add j)=some u)(h1:∀u∈news,u.oneCell'=true)(hg:sc<sl+m)(hq:sl+m<10000000)(Gq:∀bb,base=some bb→bb.block<w.heap.size∧∀a:Addr,a.block=bb.block→Ok a false)(Zn:ad.block<w.heap.size∧∀a:Addr,a.block=ad.block→Ok a false)(h:∀c' rs w1,sl+m≤c'→w.alloc (.cells ((olds++news).toArray++rs) 48)=w1→Ψ (G (b.at (a.put o.dst (.slice (some ⟨w.heap.size,0,none⟩) (sl+m) c')) (.inRegion ops rest::k)) cs) w1):
 Ψ (G (b.at a (.inRegion ops (i::rest)::k)) cs) w:=by
 refine F.Pw ho hw hk fun d K hK=>?_
 obtain⟨c',rs,hr,hc,dS⟩:=FZ (w.at d) o.type (base:=base) (sc:=sc) (a:=ad) (c:=c) UE holds ji hl gz h1 hg hq;have E4:(w.at d).grownBy ((w.at d).drew.alloc (.cells ((olds++news).toArray++rs) 48)) none:=⟨rfl,rfl,rfl,by simp,fun k hk _=>Below.heap_alloc (w.at d).drew _ k hk⟩;refine uponK_append s x 44 aQ hs hx hr (hK _ _ ⟨mF (g:=none) (fun ev hv=>?_) E4 (fun g Kc=>by cases Kc) (fun ad wr z=>by cases z),?_⟩)
 ·have hm:=mem_listed hv
  rw[events_append_op s x 44 aQ hs hx] at hm;rcases dS ev hm with ⟨ad',e1,e2,e3⟩|e1
  ·refine .inl ⟨ad',e1,rfl,?_,?_⟩
   ·rw[e2]
    rcases e3 with e3|⟨bb,e3,e4⟩
    ·exact Zn.2 _ e3
    ·exact(Gq bb e3).2 _ e4
   ·refine Nat.lt_of_lt_of_le ?_ E4.size
    rcases e3 with e3|⟨bb,e3,e4⟩
    ·rw[e3];exact Zn.1
    ·rw[e4];exact(Gq bb e3).1
  ·exact .inr e1
 ·exact F.at' _ (w.alloc (.cells ((olds++news).toArray++rs) 48)) (d+1) (h c' rs _ hc rfl)
theorem F3(w:World)(ty:TypeId){base:Option Addr}{sl sc c:Nat}(ha:base=none→sl=0){x:Option Addr}(Cg:sl≤sc):(Builtin.append_ #[44,44] ty #[.slice base sl sc,.slice x 0 c]).run prog w=.ok (.slice base sl sc) w∧(Builtin.append_ #[44,44] ty #[.slice base sl sc,.slice x 0 c]).events prog w #[]=#[]:=by
 obtain⟨inf,z,y1,y2,y3,y4,y5,y6,y7⟩:=oX (show vY prog 44 48 3 24=true by kernel_rfl);cases x<;>cases base<;>simp[Builtin.append_,run_underlying vg,sizeOf,typeInfo,y2,Builtin.lenOf,Cg,Builtin.firstCells,loadCells,loadCellsFrom,storeCells]
theorem aC.app0(F:aC prog main (DX Ok) Ψ)(ho:ops[i]? =some o)(hw:Region.wanted o (yielded ops a.tmps)=true)(hk:b.kind≠.early)(s x:Operand)(aQ:o.op=.call {callee:=.builtin .append,args:=#[s,x],argTypes:=#[44,44]}){base xa:Option Addr}{sl sc c:Nat}(hs:a.eval s=.slice base sl sc)(hx:a.eval x=.slice xa 0 c)(hn:base=none→sl=0)(Cg:sl≤sc)(h:Ψ (G (b.at (a.put o.dst (.slice base sl sc)) (.inRegion ops rest::k)) cs) w):
 Ψ (G (b.at a (.inRegion ops (i::rest)::k)) cs) w:=by
 refine F.Pw ho hw hk fun d K hK=>?_
 obtain⟨hr,dS⟩:=F3 (w.at d) o.type (x:=xa) (c:=c) hn Cg;refine uponK_append s x 44 aQ hs hx hr (hK _ _ ⟨mF (g:=none) (fun ev hv=>?_) ⟨rfl,rfl,rfl,Nat.le_refl _,fun _ _ _=>rfl⟩ (fun g Kc=>by cases Kc) (fun ad wr z=>by cases z),F.at' _ _ _ h⟩);have hm:=mem_listed hv;rw[events_append_op s x 44 aQ hs hx,dS] at hm
 simp at hm
end
def qn(L:List iO):List Value:=L.flatMap pX
theorem mW:∀L,(qn L).length=L.length*3
 |[]=>rfl
 |x::L=>by
  have h:=mW L;unfold qn at*;simp only[List.flatMap_cons,List.length_append,h,List.length_cons]
  show 3+_=_
  omega
theorem r9:∀(L:List iO)(j f:Nat),j<L.length→f<3→(qn L)[j*3+f]? =some ((pX (L.getD j ⟨0,0,0⟩)).getD f undef)
 |[],j,f,h,_=>by simp at h
 |x::L,0,f,_,hf=>by
  unfold qn;rw[List.flatMap_cons,List.getElem?_append_left (by show _<3;omega)];rcases f with _|_|_|f
  ·rfl
  ·rfl
  ·rfl
  ·omega
 |x::L,j+1,f,h,hf=>by
  have ih:=r9 L j f (by simpa using h) hf;unfold qn at*;rw[List.flatMap_cons,List.getElem?_append_right (by show 3≤_;omega)];rw[show(j+1)*3+f-(pX x).length=j*3+f by show(j+1)*3+f-3=_;omega,ih]
  rfl
theorem JO(L:List iO):∀u∈qn L,u.oneCell'=true:=fun u hu=>by
 obtain⟨x,_,h⟩:=List.mem_flatMap.1 hu;simp[pX] at h;rcases h with rfl|rfl|rfl<;>rfl
theorem JP(A L:List iO):qn (A++L)=qn A++qn L:=by unfold qn;simp
section
variable{Ok:Addr→Bool→Prop}{w:World}{M:List ah}
theorem Sat.lns{ad:Addr}{L:List iO}{p:Nat}(h:Sat Ok w M)(hp:nth M p=some (iL ad L)):∀j u,(qn L)[j]? =some u→w.cell? (ad.add j)=some u:=fun j u hj=>by
 have aT:j<L.length*3:=by rw[←mW];exact(List.getElem?_eq_some_iff.1 hj).1
 have hd:j / 3<L.length:=Nat.div_lt_of_lt_mul (by omega);have hm:j % 3<3:=Nat.mod_lt _ (by decide);have nN:j / 3*3+j % 3=j:=by omega
 have:=h.val p _ hp (j / 3,j % 3) ⟨hd,hm⟩;simp only[ah.get] at this;have hg:=r9 L (j / 3) (j % 3) hd hm;rw[nN,hj] at hg;have ea:(ad.add (j / 3*3)).add (j % 3)=ad.add j:=by rw[Addr.add_add,nN]
 rw[←ea,this,Option.some.inj hg]
theorem Sat.Yb(h:Sat Ok w M)(hB:HB w.heap.size Ok)(L:List iO)(rs:Array Value):Sat Ok (w.alloc (.cells ((qn L).toArray++rs) 48)) (iL ⟨w.heap.size,0,none⟩ L::M):=by
 have h1:=h.new ((qn L).toArray++rs) 48 hB;have hv:=(sat_iff.1 h1).1 _ (List.mem_cons_self ..);refine sat_iff.2 ⟨fun r hr=>?_,List.pairwise_cons.2 ⟨fun r hr hw j j' hj bP e=>?_,(List.pairwise_cons.1 (sat_iff.1 h1).2).2⟩⟩
 ·rcases List.mem_cons.1 hr with rfl|hr
  ·refine⟨fun j hj=>?_,fun j hj=>⟨hB _ _ (by simp only[add_add];exact Nat.le_refl _),fun z=>(by cases z)⟩,fun z=>(by cases z),fun g e n z=>(by cases z)⟩
   obtain⟨j,f⟩:=j;obtain⟨h2,h3⟩:=hj
   simp only at h2 h3
   have aT:j*3+f<(qn L).length:=by rw[mW];omega
   have h4:=hv.val (0,j*3+f) ⟨by show 0<1;omega,by show _<((qn L).toArray++rs).size;simp only[Array.size_append,List.size_toArray];omega⟩
   have h5:(lK w.heap.size 48 ((qn L).toArray++rs)).get (0,j*3+f)=(pX (L.getD j ⟨0,0,0⟩)).getD f undef:=by
    have h6:=r9 L j f h2 h3;unfold lK ah.get;cases hl:((qn L).toArray++rs).toList with
    |nil=>simp at hl;rw[hl.1] at aT;simp at aT
    |cons v vs=>
     simp only
     rw[←hl];simp only[Array.toList_append,List.getD_eq_getElem?_getD,List.getElem?_append_left aT,h6,Option.getD_some]
   simp only[add_add];rw[h5] at h4;exact h4
  ·exact(sat_iff.1 h1).1 r (List.mem_cons_of_mem _ hr)
 ·have aT:=aq (((sat_iff.1 h).1 r hr).val j' bP)
  simp only[add_add] at e;rw[←e] at aT;simp at aT
end
section
variable{main:Bool}{B:Nat}{Ok:Addr→Bool→Prop}{Ψ:Goroutine→World→Prop}
def Lit(M:List ah)(base:Option Addr)(L0:List iO):Prop:=(base=none∧L0=[])∨∃nb y p,base=some ⟨nb,0,none⟩∧L0=[y]∧nth M p=some (bR nb (pX y))
theorem aC.TL(F:aC prog main (DX Ok) Ψ){b:Frame}{a:Act}{k:List Item}{cs:List Frame}{w:World}{ops:Array Oper}{i:Nat}{rest:List Nat}{o:Oper}(hB:HB B Ok)(ey:B≤w.heap.size)(ho:ops[i]? =some o)(hg:o.guard=none)(hk:b.kind=.normal)(s x:Operand)(aQ:o.op=.call {callee:=.builtin .append,args:=#[s,x],argTypes:=#[44,44]}){base:Option Addr}{c:Nat}{ad:Addr}{L0 L:List iO}{M:List ah}{p:Nat}(hS:Sat Ok w M)(hs:a.eval s=.slice base L0.length L0.length)(hx:a.eval x=.slice (some ad) L.length c)(hp:nth M p=some (iL ad L))(h0:Lit M base L0)(gS:∀a,base=some a→B≤a.block)(hL:L≠[])(hq:L0.length+L.length<10000000)(gi:B≤ad.block)(h:∀g' c' w',Sat Ok w' (iL ⟨g',0,none⟩ (L0++L)::M)→w.heap.size≤g'→w.heap.size≤w'.heap.size→(L0++L).length≤c'→Ψ (G (b.at (a.put o.dst (.slice (some ⟨g',0,none⟩) (L0++L).length c')) (.inRegion ops rest::k)) cs) w'):
 Ψ (G (b.at a (.inRegion ops (i::rest)::k)) cs) w:=by
 have hl:0<L.length:=by cases L with|nil=>exact absurd rfl hL|cons=>simp
 have oQ:HB w.heap.size Ok:=fun a wr z=>hB a wr (Nat.le_trans ey z)
 refine F.Yc ho (by simp[Region.wanted,hg]) (by rw[hk];decide) s x aQ (olds:=qn L0) (news:=qn L) hs hx (mW _) (fun a ha j u hj=>?_) (fun z=>?_) (mW _) (hS.lns hp) (JO _) (by omega) hq (fun bb hb=>⟨?_,fun a ha=>hB a false (by rw[ha];exact gS bb hb)⟩) ⟨?_,fun a ha=>hB a false (by rw[ha];exact gi)⟩ fun c' rs w1 hc Ce=>?_
 ·rcases h0 with ⟨z1,z2⟩|⟨nb,y,p',z1,z2,z3⟩
  ·rw[z1] at ha;cases ha
  ·rw[z1] at ha;cases ha
   subst z2;have aT:j<3:=(List.getElem?_eq_some_iff.1 hj).1;have:=hS.val p' _ z3 (0,j) ⟨Nat.zero_lt_one,aT⟩;rw[Addr.add_lit,Nat.zero_add];rw[show(⟨nb,j,none⟩:Addr)=(bR nb (pX y)).ad (0,j) from rfl,this];rw[show qn [y]=pX y by simp[qn]] at hj;have e:(bR nb (pX y)).get (0,j)=(pX y).getD j undef:=rfl;rw[e,List.getD_eq_getElem?_getD,hj];rfl
 ·rcases h0 with ⟨z1,z2⟩|⟨nb,y,p',z1,z2,z3⟩
  ·rw[z2];rfl
  ·rw[z1] at z;cases z
 ·rcases h0 with ⟨z1,z2⟩|⟨nb,y,p',z1,z2,z3⟩
  ·rw[z1] at hb;cases hb
  ·rw[z1] at hb;cases hb
   exact hS.lt z3 (j:=(0,0)) ⟨Nat.zero_lt_one,(by decide:0<3)⟩
 ·have:=hS.lt hp (j:=(0,0)) ⟨hl,(by decide:0<3)⟩
  rwa[addBlock,addBlock] at this
 ·have:=h w.heap.size c' w1 (by rw[←Ce,←JP];exact hS.Yb oQ _ rs) (Nat.le_refl _) (by rw[←Ce];simp) (by rw[List.length_append];exact hc)
  rwa[List.length_append] at this
theorem TL(F:aC prog main (DX Ok) Ψ)(hB:HB B Ok){b:Frame}(hk:b.kind=.normal){B' N c:Nat}{E:Env}{M:List ah}{a:Act}{cs:List Frame}{w:World}{t:List Item}(s x d p:Nat){base:Option Addr}{cx:Nat}{ad:Addr}{L0 L:List iO}(ho:ow t=true)(aQ:ry (aU t) s x d 44=true)(hd:d<N)(hs:look E s=some (.slice base L0.length L0.length))(hx:look E x=some (.slice (some ad) L.length cx))(hp:nth M p=some (iL ad L))(h0:Lit M base L0)(hBB:B≤B')(gS:∀a,base=some a→B≤a.block)(hL:L≠[])(hq:L0.length+L.length<10000000)(gi:B≤ad.block)(S:St Ok B' N E M c a w)(K:∀g' c' a' w',Sat Ok w' (iL ⟨g',0,none⟩ (L0++L)::M)→B'≤g'→w.heap.size≤w'.heap.size→(L0++L).length≤c'→aO ((d,.slice (some ⟨g',0,none⟩) (L0++L).length c')::E) N a'→a'.defers=a.defers→Ψ (G (b.at a' (nL t)) cs) w'):Ψ (G (b.at a t) cs) w:=by
 obtain⟨ops,i,r,kk,ht,eF,hn⟩:=eX ho;obtain⟨g1,g2,g3⟩:=kL aQ;have dS:∀q v,look E q=some v→a.eval (.tmp q)=v:=fun q v hq=>by rw[S.env.eval (by simp[kn,hq])];simp[ev,hq]
 rw[ht];refine F.TL hB (by rw[S.sz];omega) eF g1 hk (.tmp s) (.tmp x) g3 S.au (dS s _ hs) (dS x _ hx) hp h0 gS hL hq gi fun g' c' w' q1 q2 q3 q4=>?_
 rw[←hn,g2];exact K g' c' _ w' q1 (by have:=S.sz;omega) q3 q4 (S.env.put hd) (put_defers _ _ _)
theorem ap0(F:aC prog main (DX Ok) Ψ){b:Frame}(hk:b.kind=.normal){B' N c:Nat}{E:Env}{M:List ah}{a:Act}{cs:List Frame}{w:World}{t:List Item}(s x d:Nat){base xa:Option Addr}{sl sc cx:Nat}(ho:ow t=true)(aQ:ry (aU t) s x d 44=true)(hd:d<N)(hs:look E s=some (.slice base sl sc))(hx:look E x=some (.slice xa 0 cx))(sw:base=none→sl=0)(Cg:sl≤sc)(S:St Ok B' N E M c a w)(K:∀a',aO ((d,.slice base sl sc)::E) N a'→a'.defers=a.defers→Ψ (G (b.at a' (nL t)) cs) w):Ψ (G (b.at a t) cs) w:=by
 obtain⟨ops,i,r,kk,ht,eF,hn⟩:=eX ho;obtain⟨g1,g2,g3⟩:=kL aQ;have dS:∀q v,look E q=some v→a.eval (.tmp q)=v:=fun q v hq=>by rw[S.env.eval (by simp[kn,hq])];simp[ev,hq]
 rw[ht];refine F.app0 eF (by simp[Region.wanted,g1]) (by rw[hk];decide) (.tmp s) (.tmp x) g3 (dS s _ hs) (dS x _ hx) sw Cg ?_;rw[←hn,g2];exact K _ (S.env.put hd) (put_defers _ _ _)
def M5(o:Oper)(x d:Nat):Bool:=o.guard.isNone&&(match o.dst with|some d'=>d'==d|none=>false)&&(match o.op with
 |.slice t (.tmp x') (some (.const (.int .i64 l))) none none=>t==44&&x'==x&&l==1
 |_=>false)
theorem Jl{o:Oper}{x d:Nat}(h:M5 o x d=true):o.guard=none∧o.dst=some d∧o.op=.slice 44 (.tmp x) (some (.const (.int .i64 1))) none none:=by
 unfold M5 at h;simp only[Bool.and_eq_true] at h;obtain⟨⟨h1,h2⟩,h3⟩:=h
 have hg:o.guard=none:=by
  cases hg:o.guard with
  |none=>rfl
  |some p=>rw[hg] at h1;cases h1
 refine⟨hg,?_,?_⟩
 ·split at h2
  ·rename_i d' hd;rw[hd];simp at h2;rw[h2]
  ·cases h2
 ·split at h3
  ·rename_i t x' l ho
   simp only[Bool.and_eq_true,beq_iff_eq] at h3;rw[ho,h3.1.1,h3.1.2,h3.2]
  ·cases h3
theorem ww(w:World){ca:Addr}{q cap:Nat}(h2:q+1≤cap):(Instr.sliceAt 44 (.slice (some ca) (q+1) cap) (some (.int .i64 1)) none none).run prog w=.ok (.slice (some (if cap=1 then ca else ca.add 3)) q (cap-1)) w∧
 (Instr.sliceAt 44 (.slice (some ca) (q+1) cap) (some (.int .i64 1)) none none).events prog w #[]=#[]:=by
 obtain⟨inf,z,y1,y2,y3,y4,y5,y6,y7⟩:=oX (show vY prog 44 48 3 24=true by kernel_rfl);have h3:(1:Int)≤(q:Int)+1:=by omega
 constructor
 ·simp[Instr.sliceAt,run_underlying vg,Instr.slice,Instr.sliceBounds,Instr.sliceBound,asInt,asIntOf,sizeOf,typeInfo,y2,y4,h3]
  split<;>rfl
 ·simp[Instr.sliceAt,run_underlying vg,Instr.slice,Instr.sliceBounds,Instr.sliceBound,asInt,asIntOf,sizeOf,typeInfo,y2,y4,h3]
theorem sl1(F:aC prog main (DX Ok) Ψ){b:Frame}(hk:b.kind=.normal){B' N c:Nat}{E:Env}{M:List ah}{a:Act}{cs:List Frame}{w:World}{t:List Item}(x d:Nat){ca:Addr}{q cap:Nat}(ho:ow t=true)(aQ:M5 (aU t) x d=true)(hd:d<N)(hx:look E x=some (.slice (some ca) (q+1) cap))(hc:q+1≤cap)(S:St Ok B' N E M c a w)(K:∀a',aO ((d,.slice (some (if cap=1 then ca else ca.add 3)) q (cap-1))::E) N a'→a'.defers=a.defers→Ψ (G (b.at a' (nL t)) cs) w):Ψ (G (b.at a t) cs) w:=by
 obtain⟨ops,i,r,kk,ht,eF,hn⟩:=eX ho;obtain⟨g1,g2,g3⟩:=Jl aQ;have dS:a.eval (.tmp x)=.slice (some ca) (q+1) cap:=by rw[S.env.eval (by simp[kn,hx])];simp[ev,hx]
 have Z0:a.eval (.const (.int .i64 1))=.int .i64 1:=rfl;rw[ht];refine F.xT eF (by simp[Region.wanted,g1]) (by rw[hk];decide) (fun d'=>?_) fun d' K' hK=>?_
 ·unfold execOp;simp only[g3,Option.map_some,Option.map_none,dS,Z0,Sem.events_bind,(ww (w.at d') (ca:=ca) hc).1,(ww (w.at d') (ca:=ca) hc).2,Result.evThen_ok];rfl
 ·unfold execOp;simp only[g3,Option.map_some,Option.map_none,dS,Z0,Sem.run_bind,(ww (w.at d') (ca:=ca) hc).1,Result.andThen_ok]
  refine hK _ ?_;rw[←hn,g2];exact K _ (S.env.put hd) (put_defers _ _ _)
end
section
variable{main:Bool}{B:Nat}{Ok:Addr→Bool→Prop}{Ψ:Goroutine→World→Prop}
theorem Sat.Zh{w:World}{M Z:List ah}(h:Sat Ok w M)(hz:∀i r,nth Z i=some r→r.wr=false∧∃k r',nth M k=some r'∧r={r' with wr:=false}):Sat Ok w Z:=by
 have key:∀i r,nth Z i=some r→∃k r',nth M k=some r'∧r={r' with wr:=false}:=fun i r hr=>(hz i r hr).2
 refine⟨fun i r hr j hj=>?_,fun i r hr j hj=>?_,fun i r i' r' hr lD hw=>?_,fun i r hr g e n hg=>?_⟩
 ·obtain⟨k,r',hk,rfl⟩:=key i r hr;exact h.val k r' hk j hj
 ·obtain⟨k,r',hk,rfl⟩:=key i r hr;exact⟨(h.ok k r' hk j hj).1,fun z=>by cases z⟩
 ·rw[(hz i r hr).1] at hw;cases hw
 ·obtain⟨k,r',hk,rfl⟩:=key i r hr;exact h.row k r' hk g e n hg
def Ug(ops:Array Oper)(q dx d:Nat)(E3:Env):Bool:=match ops[q+1]? with
 |some o=>(match o.dst with|some d'=>d'==dx|none=>false)&&o.guard.isNone&&!mo o&&o.op.operands.all (kn ((d,undef)::E3))
 |none=>false
theorem NE{d:Nat}{E:Env}{u v:Value}{x:Operand}(h:kn ((d,u)::E) x=true):kn ((d,v)::E) x=true:=by
 cases x with
 |tmp t=>
  simp only[kn,look] at h ⊢;cases he:(d==t) with
  |true=>rfl
  |false=>rw[he] at h;exact h
 |_=>exact h
theorem Fj{ops:Array Oper}{q dx d:Nat}{E3:Env}(h:Ug ops q dx d E3=true):∃o,ops[q+1]? =some o∧o.dst=some dx∧o.guard=none∧mo o=false∧∀v,o.op.operands.all (kn ((d,v)::E3))=true:=by
 unfold Ug at h
 split at h
 ·rename_i o ho
  simp only[Bool.and_eq_true,Bool.not_eq_true'] at h;obtain⟨⟨⟨h1,h2⟩,h3⟩,h4⟩:=h;refine⟨o,ho,?_,?_,h3,fun v=>Array.all_eq_true_iff_forall_mem.2 fun x hx=>NE (Array.all_eq_true_iff_forall_mem.1 h4 x hx)⟩
  ·split at h1
   ·rename_i d' hd;rw[hd];simp at h1;rw[h1]
   ·cases h1
  ·cases hg:o.guard with
   |none=>rfl
   |some p=>rw[hg] at h2;cases h2
 ·cases h
theorem bkL(Z:List ah)(alt:List (Nat×List Hint))(F:aC prog main (DX Ok) Ψ)(hB:HB B Ok){B':Nat}(hle:B≤B'){b:Frame}(hk:b.kind=.normal){f n0:Nat}{dG:List Bool}{dD:List Nat}(q:Nat)(hs:List Hint)(bs:List (Bool×Bool))(E2 E3:Env)(ed:List ah→List ah)(c':Nat){N:Nat}{E:Env}{M:List ah}{c:Nat}(dB:List (Bool×Bool))(fI:List (Int×Nat))(aZ:List (Nat×Nat)){a:Act}{cs:List Frame}{w:World}(s x d dx:Nat)(vx:Value→Value)(p:Nat){base:Option Addr}{cx:Nat}{ad:Addr}{L0 L:List iO}(ht:pE (pc prog f n0 dG dD)=true)(aQ:((aE (pc prog f n0 dG dD))[q]?).map (fun o=>ry o s x d 44)=some true)(Cp:Ug (aE (pc prog f n0 dG dD)) q dx d E3=true)(NM:∀oa n c,cY prog (execOp (ev ((d,.slice oa n c)::E3)) (((aE (pc prog f n0 dG dD))[q+1]?).getD default))=some (.value (vx (.slice oa n c))))(h:Bt prog Z alt (aE (pc prog f n0 dG dD)) q E M c c [s,x] (E2.map Prod.fst) (E3.map Prod.fst) (iD prog B' N E M c hs bs (aE (pc prog f n0 dG dD)) q)=some (⟨[some (.slice base L0.length L0.length),some (.slice (some ad) L.length cx)],E2.map (fun p=>some p.2),ed M,c',dB,fI,aZ,true⟩,E3.map (fun p=>some p.2),true))(hq:II Prod.fst (iD prog B' N E M c hs bs (aE (pc prog f n0 dG dD)) q)=II Prod.snd (iD prog B' N E M c hs bs (aE (pc prog f n0 dG dD)) q))(halt:u7 prog (aE (pc prog f n0 dG dD)) Z alt true (iD prog B' N E M c hs bs (aE (pc prog f n0 dG dD)) q)=u7 prog (aE (pc prog f n0 dG dD)) Z alt false (iD prog B' N E M c hs bs (aE (pc prog f n0 dG dD)) q))(hZ:∀i r,nth Z i=some r→r.wr=false∧∃k r',nth (ed M) k=some r'∧r={r' with wr:=false})(LI:(s==x)=false)(wX:d∉E2.map Prod.fst∧dx∉E2.map Prod.fst∧d≠dx)(LN:.inRegion (aE (pc prog f n0 dG dD)) (bM (q+2) ((aE (pc prog f n0 dG dD)).size-(q+2)))::behind (pc prog f n0 dG dD)=pc prog f (n0+1) dG (dD++[q+2]))(p7:∀p∈dB,p.1=p.2)(uT:∀p∈fI,0≤p.1∧p.1<(p.2:Int))(rO:∀p∈aZ,p.1<p.2)(S:St Ok B' N E M c a w)(hp:nth (ed M) p=some (iL ad L))(h0:Lit (ed M) base L0)(gS:∀a,base=some a→B≤a.block)(hL:L≠[])(Ck:L0.length+L.length<10000000)(gi:B≤ad.block)(K:∀g' c2 a' w',Sat Ok w' (iL ⟨g',0,none⟩ (L0++L)::ed M)→B'≤g'→B'≤w'.heap.size→(L0++L).length≤c2→aO ((d,.slice (some ⟨g',0,none⟩) (L0++L).length c2)::(dx,vx (.slice (some ⟨g',0,none⟩) (L0++L).length c2))::E2) N a'→a'.defers=a.defers→Ψ (G (b.at a' (pc prog f (n0+1) dG (dD++[q+2]))) cs) w'):Ψ (G (b.at a (pc prog f n0 dG dD)) cs) w:=by
 obtain⟨ox,G1,Cc,GP,pF,LD⟩:=Fj Cp;rw[G1,Option.getD_some] at NM;cases AL:(aE (pc prog f n0 dG dD))[q]? with
 |none=>rw[AL] at aQ;cases aQ
 |some o=>
  rw[AL] at aQ;obtain⟨g1,g2,g3⟩:=kL (Option.some.inj aQ);refine bkX (Post:=fun v w'=>∃g' c2,v=.slice (some ⟨g',0,none⟩) (L0++L).length c2∧Sat Ok w' (iL ⟨g',0,none⟩ (L0++L)::ed M)∧B'≤g'∧B'≤w'.heap.size∧(L0++L).length≤c2) Z alt F (by kernel_rfl) (fun a wr z=>hB a wr (Nat.le_trans hle z)) hk q hs bs c [(s,.slice base L0.length L0.length),(x,.slice (some ad) L.length cx)] E2 E3 (ed M) c' dB fI aZ d dx vx ht AL G1 g2 Cc GP pF LD (fun v w2 dR=>?_) h hq wX halt p7 uT rO S (fun v w2 dR=>?_) (fun a1 w1 rest S1 KK=>?_) (fun v w2 a2 w3 dR hA vC tP eu=>?_)
  ·obtain⟨g',c2,rfl,_⟩:=dR
   exact NM _ _ _
  ·obtain⟨g',c2,rfl,z2,z3,z4,z5⟩:=dR
   exact⟨z2.tail.Zh hZ,z4⟩
  ·have e1:a1.eval (.tmp s)=.slice base L0.length L0.length:=by rw[S1.env.eval (by simp[kn,look])];simp[ev,look]
   have e2:a1.eval (.tmp x)=.slice (some ad) L.length cx:=by rw[S1.env.eval (by simp[kn,look,LI])];simp[ev,look,LI]
   refine F.TL hB (by rw[S1.sz];omega) AL g1 hk (.tmp s) (.tmp x) g3 S1.au e1 e2 hp h0 gS hL Ck gi fun g' c2 w' q1 q2 q3 q4=>?_
   exact KK _ _ ⟨g',c2,rfl,q1,by have:=S1.sz;omega,by have:=S1.sz;omega,q4⟩
  ·obtain⟨g',c2,rfl,z2,z3,z4,z5⟩:=dR
   rw[LN];exact K g' c2 a2 w3 (z2.keep tP) z3 (by omega) z5 hA vC
theorem X8(Z:List ah)(alt:List (Nat×List Hint))(F:aC prog main (DX Ok) Ψ)(hB:HB B Ok){B':Nat}(hle:B≤B'){b:Frame}(hk:b.kind=.normal){f n0:Nat}{dG:List Bool}{dD:List Nat}(q:Nat)(hs:List Hint)(bs:List (Bool×Bool))(E2 E3:Env)(ed:List ah→List ah)(c':Nat){N:Nat}{E:Env}{M:List ah}{c:Nat}(dB:List (Bool×Bool))(fI:List (Int×Nat))(aZ:List (Nat×Nat)){a:Act}{cs:List Frame}{w:World}(s x d dx:Nat)(vx:Value→Value){base xa:Option Addr}{sl sc cx:Nat}(ht:pE (pc prog f n0 dG dD)=true)(aQ:((aE (pc prog f n0 dG dD))[q]?).map (fun o=>ry o s x d 44)=some true)(Cp:Ug (aE (pc prog f n0 dG dD)) q dx d E3=true)(NM:∀oa n c,cY prog (execOp (ev ((d,.slice oa n c)::E3)) (((aE (pc prog f n0 dG dD))[q+1]?).getD default))=some (.value (vx (.slice oa n c))))(h:Bt prog Z alt (aE (pc prog f n0 dG dD)) q E M c c [s,x] (E2.map Prod.fst) (E3.map Prod.fst) (iD prog B' N E M c hs bs (aE (pc prog f n0 dG dD)) q)=some (⟨[some (.slice base sl sc),some (.slice xa 0 cx)],E2.map (fun p=>some p.2),ed M,c',dB,fI,aZ,true⟩,E3.map (fun p=>some p.2),true))(hq:II Prod.fst (iD prog B' N E M c hs bs (aE (pc prog f n0 dG dD)) q)=II Prod.snd (iD prog B' N E M c hs bs (aE (pc prog f n0 dG dD)) q))(halt:u7 prog (aE (pc prog f n0 dG dD)) Z alt true (iD prog B' N E M c hs bs (aE (pc prog f n0 dG dD)) q)=u7 prog (aE (pc prog f n0 dG dD)) Z alt false (iD prog B' N E M c hs bs (aE (pc prog f n0 dG dD)) q))(hZ:∀i r,nth Z i=some r→r.wr=false∧∃k r',nth (ed M) k=some r'∧r={r' with wr:=false})(LI:(s==x)=false)(wX:d∉E2.map Prod.fst∧dx∉E2.map Prod.fst∧d≠dx)(LN:.inRegion (aE (pc prog f n0 dG dD)) (bM (q+2) ((aE (pc prog f n0 dG dD)).size-(q+2)))::behind (pc prog f n0 dG dD)=pc prog f (n0+1) dG (dD++[q+2]))(p7:∀p∈dB,p.1=p.2)(uT:∀p∈fI,0≤p.1∧p.1<(p.2:Int))(rO:∀p∈aZ,p.1<p.2)(S:St Ok B' N E M c a w)(sw:base=none→sl=0)(Cg:sl≤sc)(K:∀a' w',Sat Ok w' (ed M)→B'≤w'.heap.size→aO ((d,.slice base sl sc)::(dx,vx (.slice base sl sc))::E2) N a'→a'.defers=a.defers→Ψ (G (b.at a' (pc prog f (n0+1) dG (dD++[q+2]))) cs) w'):Ψ (G (b.at a (pc prog f n0 dG dD)) cs) w:=by
 obtain⟨ox,G1,Cc,GP,pF,LD⟩:=Fj Cp;rw[G1,Option.getD_some] at NM;cases AL:(aE (pc prog f n0 dG dD))[q]? with
 |none=>rw[AL] at aQ;cases aQ
 |some o=>
  rw[AL] at aQ;obtain⟨g1,g2,g3⟩:=kL (Option.some.inj aQ);refine bkX (Post:=fun v w'=>v=.slice base sl sc∧Sat Ok w' (ed M)∧B'≤w'.heap.size) Z alt F (by kernel_rfl) (fun a wr z=>hB a wr (Nat.le_trans hle z)) hk q hs bs c [(s,.slice base sl sc),(x,.slice xa 0 cx)] E2 E3 (ed M) c' dB fI aZ d dx vx ht AL G1 g2 Cc GP pF LD (fun v w2 dR=>?_) h hq wX halt p7 uT rO S (fun v w2 dR=>?_) (fun a1 w1 rest S1 KK=>?_) (fun v w2 a2 w3 dR hA vC tP eu=>?_)
  ·rw[dR.1];exact NM _ _ _
  ·exact⟨dR.2.1.Zh hZ,dR.2.2⟩
  ·have e1:a1.eval (.tmp s)=.slice base sl sc:=by rw[S1.env.eval (by simp[kn,look])];simp[ev,look]
   have e2:a1.eval (.tmp x)=.slice xa 0 cx:=by rw[S1.env.eval (by simp[kn,look,LI])];simp[ev,look,LI]
   refine F.app0 AL (by simp[Region.wanted,g1]) (by rw[hk];decide) (.tmp s) (.tmp x) g3 e1 e2 sw Cg ?_;exact KK _ _ ⟨rfl,S1.au,by have:=S1.sz;omega⟩
  ·obtain⟨rfl,z2,z3⟩:=dR
   rw[LN];exact K a2 w3 (z2.keep tP) (by omega) hA vC
end
section
variable{P:Program}
theorem qh:cY P program=some P:=rfl
theorem sV{α:Type}(c:Prop)[Decidable c](x y:Sem α):cY P (if c then x else y)=if c then cY P x else cY P y:=by split<;>rfl
theorem Kz(d:Nat)(t:TypeId)(k k':IntKind)(a:Int)(h:P.underlying t=some (.int k')):cY P (Op.equalIn (d+1) t (.int k a) (.int k a))=some true:=by
 simp[Op.equalIn,cC,nX _ _ h,ia]
theorem Bb(d:Nat)(t:TypeId)(xs:Array Value){fs:Array Field}(ht:P.underlying t=some (.struct fs))(hp:P.stoodInHeld t=false)(hf:∀f∈fs.toList,∃v,cY P (part f.type xs f.offset)=some v∧cY P (Op.equalIn d f.type v v)=some true):
 cY P (Op.equalIn (d+1) t (.agg xs) (.agg xs))=some true:=by
 simp only[Op.equalIn,cC,nX _ _ ht,Option.bind_some,qh,hp,Bool.false_eq_true,if_false];rw[←Array.forIn_toList];generalize fs.toList=l at hf
 induction l with
 |nil=>rfl
 |cons f l ih=>
  obtain⟨v,h1,h2⟩:=hf f (List.mem_cons_self ..);have Zu:=ih (fun g hg=>hf g (List.mem_cons_of_mem _ hg));simp only[List.forIn_cons,cC,sV,h1,h2,Option.bind_some,Bool.not_true,Bool.false_eq_true,if_false,ia]
  split
  ·simpa [cC] using Zu
  ·simpa [cC] using Zu
def Ax(P:Program)(t n:Nat):Bool:=match P.underlying t,P.underlying 3 with
 |some (.struct fs),some (.int _)=>!P.stoodInHeld t&&!P.eqGuardType P.depth t&&fs.toList.all (fun f=>f.type==3&&Nat.blt f.offset n)&&(match cY P (isAgg 3) with|some b=>!b|none=>false)
 |_,_=>false
theorem neQ{t n:Nat}(h:Ax P t n=true)(x y:Operand)(zs:List Int)(hn:zs.length=n):cY P (do eqGuard .neq t x y (.agg (zs.map i6).toArray) (.agg (zs.map i6).toArray);binOp .neq t (.agg (zs.map i6).toArray) (.agg (zs.map i6).toArray))=some (.bool false):=by
 unfold Ax at h
 split at h
 ·rename_i fs k ht h3
  simp only[Bool.and_eq_true,Bool.not_eq_true'] at h;obtain⟨⟨⟨h4,h5⟩,h6⟩,h7⟩:=h
  have oP:cY P (isAgg 3)=some false:=by
   split at h7
   ·rename_i b hb;rw[hb];simp at h7;rw[h7]
   ·cases h7
  have hg:cY P (eqGuard .neq t x y (.agg (zs.map i6).toArray) (.agg (zs.map i6).toArray))=some ():=by
   simp only[eqGuard,cC,qh,Option.bind_some,h5,sV,ia];simp[cC,qh,h5,ia]
  have he:cY P (Op.equalIn 10000 t (.agg (zs.map i6).toArray) (.agg (zs.map i6).toArray))=some true:=by
   refine Bb 9999 t _ ht h4 fun f hf=>?_
   have:=List.all_eq_true.1 h6 f hf;simp only[Bool.and_eq_true,beq_iff_eq,Nat.blt_eq] at this;have aT:f.offset<zs.length:=by rw[hn];exact this.2
   refine⟨i6 zs[f.offset],?_,?_⟩
   ·rw[this.1]
    simp only[part,cC,oP,Option.bind_some,sV,Bool.false_eq_true,if_false];simp[aT,ia]
   ·rw[this.1];exact Kz 9998 3 .i64 k _ h3
  rw[cC,hg,Option.bind_some]
  show cY P (Op.equalIn 10000 t (.agg (zs.map i6).toArray) (.agg (zs.map i6).toArray)>>=fun a=>pure (Value.bool (!a)))=_
  rw[cC,he];rfl
 ·cases h
end
def NB(o:Oper)(x y d t:Nat):Bool:=o.guard.isNone&&(match o.dst with|some d'=>d'==d|none=>false)&&(match o.op with
 |.binOp .neq t' (.tmp x') (.tmp y') _=>t'==t&&x'==x&&y'==y
 |_=>false)
theorem JL{o:Oper}{x y d t:Nat}(h:NB o x y d t=true):o.guard=none∧o.dst=some d∧∃t2,o.op=.binOp .neq t (.tmp x) (.tmp y) t2:=by
 unfold NB at h;simp only[Bool.and_eq_true] at h;obtain⟨⟨h1,h2⟩,h3⟩:=h;refine⟨by simpa using h1,?_,?_⟩
 ·split at h2
  ·rename_i d' hd;rw[hd];simp at h2;rw[h2]
  ·cases h2
 ·split at h3
  ·rename_i t' x' y' t2 ho
   simp only[Bool.and_eq_true,beq_iff_eq] at h3;obtain⟨⟨a1,a2⟩,a3⟩:=h3;subst a1;subst a2;subst a3;exact⟨t2,ho⟩
  ·cases h3
section
variable{main:Bool}{Ok:Addr→Bool→Prop}{Ψ:Goroutine→World→Prop}
theorem Zq(F:aC prog main (DX Ok) Ψ){b:Frame}(hk:b.kind=.normal){B' N c:Nat}{E:Env}{M:List ah}{a:Act}{cs:List Frame}{w:World}{t:List Item}(x y d ty:Nat)(zs:List Int)(qV:Ax prog ty zs.length=true)(ho:ow t=true)(aQ:NB (aU t) x y d ty=true)(hd:d<N)(hx:look E x=some (.agg (zs.map i6).toArray))(hy:look E y=some (.agg (zs.map i6).toArray))(S:St Ok B' N E M c a w)(K:∀a',aO ((d,.bool false)::E) N a'→a'.defers=a.defers→Ψ (G (b.at a' (nL t)) cs) w):Ψ (G (b.at a t) cs) w:=by
 obtain⟨ops,i,r,kk,ht,eF,hn⟩:=eX ho;obtain⟨g1,g2,t2,g3⟩:=JL aQ;have dS:∀q v,look E q=some v→a.eval (.tmp q)=v:=fun q v hq=>by rw[S.env.eval (by simp[kn,hq])];simp[ev,hq]
 have hq:cY prog (execOp a.eval (aU t))=some (.value (.bool false)):=by
  unfold execOp;rw[g3];have h1:=neQ qV (.tmp x) (.tmp y) zs rfl;simp only[dS x _ hx,dS y _ hy];rw[cC,h1];rfl
 have dQ:=fG _ _ hq;rw[ht];refine F.xT eF (by simp[Region.wanted,g1]) (by rw[hk];decide) (fun d'=>?_) fun d' K' hK=>?_
 ·unfold Sem.events;rw[dQ]
 ·rw[←Sem.runT_fst (es:=#[]),dQ]
  refine hK _ ?_;rw[←hn,g2];exact K _ (S.env.put hd) (put_defers _ _ _)
end
end Go.Proofs.YtobagnjnbmgidaaGreatDoor
