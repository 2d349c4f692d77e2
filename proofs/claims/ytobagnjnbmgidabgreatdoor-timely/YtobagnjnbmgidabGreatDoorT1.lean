import Derived.Test.YtobagnjnbmgidabGreatDoorO1
import Derived.Test.YtobagnjnbmgidabGreatDoorK8
set_option linter.all false
set_option maxHeartbeats 0
set_option maxRecDepth 100000
namespace Go.Proofs.YtobagnjnbmgidabGreatDoor
open Go.Conc Go.RowKit Tryz
variable{g:Addr}{b:Bk}{L L0:LS}{cap e j j0 m n:Nat}{a r r' z:aH}{O P R Y:aW}{w' w0:aj}{U cf:aC}{v:eX}{q:aN}{es:jl}{Tf:bU}{J:cO}
variable{t wn k i T c ba bt bu bl bc bw B:Nat}{en u:ay}{eb:mW}{f':Fb}{γ:Type}{D:PK}{Lf:LS->Prop}{main:Bool}{I:dh}{Ψ:gi}{w:aj}{M:aW}{E:TE γ}
def t115:Qc Tryz.prog 130 86 1 8=true:=ρ
def G3.add{c:bU}{f:Fb}(h:G3 I c q f){base:eP}{b m l x:Nat}{a:eX}(p:HB B I)(d:(base=some ⟨f.g,f.o+0,none⟩/\f.s=true)\/(base=none/\f.s=false/\q=[]/\f.c=0))(o:∀j,j<q.length->(a (0+j)).getD 0 undef=(f.v (0+j)).getD 0 undef)(f:(a (0+q.length)).getD 0 undef=ptr (c x))(n:base=some ⟨b,m+0,none⟩\/B<=b)(f:q.length+1<=l):G3 I c (q++[x]) ⟨true,b,m,l,a⟩:=by
 refine⟨(λz=>by cases z),λ_=>ξ,λ_ k wr c=>?_,λi f=>?_⟩
 .have g:k.block=b:=c;rcases n with z|z
  .rcases d with y|y
   .rw[y.1]at z;cases z;exact h.ok y.2 k wr g
   .rw[y.1]at z;cases z
  .exact p k wr ω
 .have b:i<q.length+1:=ξ
  show(a i).getD 0 undef=_;by_cases e:i=q.length
  .simp_all
  .have a:i<q.length:=ω
   have:=o i a;rw[bK]at this;rw[this,h.val i a];simp_all
def G3.base{I:dh}{b:bU}{q:aN}{f:Fb}(h:G3 I b q f):∃base,su f q.length=.slice base q.length f.c/\((base=some ⟨f.g,f.o+0,none⟩/\f.s=true)\/(base=none/\f.s=false/\q=[]/\f.c=0))/\q.length<=f.c/\(0+f.c<=rK f/\(0<f.c->rK f=0+f.c)):=by
 cases a:f.s with
 |true=>exact⟨_,by unfold su;simp_all,.inl ⟨rfl,rfl⟩,h.len a,by unfold rK;grind⟩
 |false=>
  let⟨c,_,b⟩:=h.nil a;exact⟨none,by unfold su;simp_all,.inr ⟨rfl,rfl,c,b⟩,ξ,ω⟩
abbrev XY:Fb:=⟨false,0,0,0,λ_=>[]⟩
abbrev PS.nH(s:PS)(t wn k i T c:Nat)(en:ay)(eb:mW)(u:ay)(ba bt bu bl bc bw:Nat)(f':Fb):PS:={s with en:=en,eb:=eb,q:=s.q.take i++s.l.al::s.q.drop i,cv:=upd s.cv s.l.al (.func (.func 48) #[] #[ptr ba,ptr bt,ptr bu]),cx:=oR ba 0 [ptr s.k.A] false::oR bt 0 [ptr T] false::oR bu 0 [u] false::oR bl 0 [ptr (s.k.lb k)] false::oR bw 0 [ptr (s.wb wn)] false::s.cx,T:=upd s.T s.l.tl T,aS:=upd s.aS s.l.tl c,wk:=upd s.wk s.l.tl u,bf:=upd (upd s.bf s.l.tl XY) t f',bl:=upd (upd s.bl s.l.tl []) t (s.bl t++[s.l.tl]),cm:=upd s.cm wn (some (bc,[i6 0,.nilIface,.nilIface])),l:=s.l.begin t wn k}
section
variable{s:PS}
def QI.nH(Q:QI s)(b:i<=s.q.length)(a:iM (bA s) s.l.now i):QI (s.nH t wn k i T c en eb u ba bt bu bl bc bw f')/\bA (s.nH t wn k i T c en eb u ba bt bu bl bc bw f')=(bA s).take i++(s.l.now,.func (.func 48) #[] #[ptr ba,ptr bt,ptr bu])::(bA s).drop i:=by
 have:=Q.ins (s1:=s.nH t wn k i T c en eb u ba bt bu bl bc bw f') (e:=⟨s.l.now,s.l.tl,0,0,false⟩) b a rfl rfl rfl rfl rfl (.inl rfl) (az _) (λ_ _=>rfl) (λj a=>af a) (λ_ h=>h.cons.cons.cons.cons.cons) (Nat.le_succ _) (λj a=>⟨af (iS a),af (iS a)⟩) ⟨λ_=>⟨s.l.tl,ba,bt,bu,rfl,gr _,sJ rfl,⟨rfl,0,rfl⟩,⟨rfl,1,by simp[nth,upd]⟩,⟨rfl,2,by simp[nth,upd]⟩⟩,λz=>absurd rfl z⟩;refine⟨this.1,this.2.trans ?_⟩;congr 2;unfold fF;simp[LS.begin,LS.put,upd]
def TI.nH(H:TI s)(n:t<s.l.tl)(K:wn<s.l.wl)(I:(s.l.wt wn).t=t)(I:(s.l.wt wn).l=k)(P:k<s.k.V.nl)(Q:(s.k.V.ly k).k=6)(I:(s.l.wt wn).x=false)(I:s.cm wn=none)(O:u=.func (.func 185) #[] #[ptr bl,ptr bc,ptr bw]):TI (s.nH t wn k i T c en eb u ba bt bu bl bc bw f'):=by
 have m:∀w,((s.nH t wn k i T c en eb u ba bt bu bl bc bw f').l.wt w).l=(s.l.wt w).l/\((s.nH t wn k i T c en eb u ba bt bu bl bc bw f').l.wt w).t=(s.l.wt w).t/\((s.nH t wn k i T c en eb u ba bt bu bl bc bw f').l.wt w).x=(s.l.wt w).x/\((s.nH t wn k i T c en eb u ba bt bu bl bc bw f').l.wt w).z=(s.l.wt w).z/\((s.nH t wn k i T c en eb u ba bt bu bl bc bw f').l.wt w).b=(s.l.wt w).b:=λw=>by
  by_cases e:w=wn
  .subst e;simp[LS.begin,LS.put,upd]
  .simp[LS.begin,LS.put,upd,e]
 have E:∀j,j<s.l.tl->(s.nH t wn k i T c en eb u ba bt bu bl bc bw f').l.tk j=s.l.tk j:=λj f=>af (iS f);have D:(s.nH t wn k i T c en eb u ba bt bu bl bc bw f').l.tk s.l.tl=⟨(s.l.tk t).c,wn,k+1,-1,false,false,-1,λ_=>0,λ_=>0⟩:=sJ rfl;have up:∀r,Has s.cx r->Has (s.nH t wn k i T c en eb u ba bt bu bl bc bw f').cx r:=λr h=>h.cons.cons.cons.cons.cons;have r:(s.nH t wn k i T c en eb u ba bt bu bl bc bw f').l.tl=s.l.tl+1:=rfl;have r:∀w,w≠wn->(s.nH t wn k i T c en eb u ba bt bu bl bc bw f').cm w=s.cm w:=λw h=>af h;have G:(s.nH t wn k i T c en eb u ba bt bu bl bc bw f').cm wn=some (bc,[i6 0,.nilIface,.nilIface]):=sJ rfl;refine⟨Nat.le_succ_of_le H.nc,λw h=>?_,λw h b B z=>?_,λj f=>?_,λj A x=>?_,λj f=>?_,λj f=>?_,λw h z=>?_⟩
 .rw[(m w).2.1];let⟨v,A,x⟩:=H.wt w h;grind
 .rw[(m w).1,(m w).2.2.1,(m w).2.2.2.1,(m w).2.2.2.2];by_cases e:w=wn
  .grind
  .rw[r w e]at z;let⟨N,I,r⟩:=H.cm w h b B z;exact⟨N,I,λa b=>(r a b).up up⟩
 .have l:j<s.l.tl+1:=f;by_cases e:j=s.l.tl
  .subst e;rw[D];let⟨v,A,x,r⟩:=H.cl t n;exact⟨v,A,x,λz=>by have:=H.nc;grind⟩
  .rw[E j ω];exact H.cl j ω
 .have l:j<s.l.tl+1:=x;by_cases e:j=s.l.tl
  .subst e;rw[D];refine⟨wn,bl,bc,bw,k,[i6 0,.nilIface,.nilIface],rfl,K,ξ,rfl,P,Q,?_,⟨rfl,3,rfl⟩,⟨rfl,4,rfl⟩,G⟩;show upd s.wk s.l.tl u s.l.tl=_;rw[<-O];exact sJ rfl
  .rw[E j ω];let⟨w,v,x,r,C,B,q,p,J,o,I,G,P,O,N,Q⟩:=H.wk j A ω;have F:w≠wn:=λy=>ξ
   refine⟨w,v,x,r,C,B,q,p,ξ,o,I,G,?_,up _ O,up _ N,ξ⟩;show upd s.wk s.l.tl u j=_;rw[<-P];exact af e
 .have l:j<s.l.tl+1:=f;have L:∀j,j<s.l.tl->∀d∈s.bl j,j<d/\d<s.l.tl+1/\s.k.V.nc<=d/\∃w:Nat,((s.nH t wn k i T c en eb u ba bt bu bl bc bw f').l.tk d).f=w/\w<s.l.wl/\((s.nH t wn k i T c en eb u ba bt bu bl bc bw f').l.wt w).t=j:=λj f d g=>by
   let⟨q,p,J,w,o,I,G⟩:=(H.ch j f).2 d g;grind
  by_cases e:j=t
  .subst e;rw[show(s.nH j wn k i T c en eb u ba bt bu bl bc bw f').bl j=s.bl j++[s.l.tl]from sJ rfl];refine⟨YS.2 ⟨(H.ch j n).1,ψ,λa R b M=>?_⟩,λd g=>?_⟩
   .simp at M;subst M;exact((H.ch j n).2 a R).2.1
   .rcases dJ.1 g with g|g
    .exact L j n d g
    .simp at g;subst g;exact⟨n,gr _,H.nc,wn,by rw[D],K,ξ⟩
  .by_cases F:j=s.l.tl
   .subst F;have a:(s.nH t wn k i T c en eb u ba bt bu bl bc bw f').bl s.l.tl=[]:=by simp[upd,e]
    simp_all
   .have a:(s.nH t wn k i T c en eb u ba bt bu bl bc bw f').bl j=s.bl j:=by simp[upd,e,F]
    rw[a];exact⟨(H.ch j ω).1,L j ω⟩
 .have l:j<s.l.tl+1:=f;by_cases e:j=s.l.tl
  .simp_all
  .rw[E j ω];exact(H.can j ω).imp id fun⟨w,C,q,p,J,o⟩=>⟨w,C,q,p,ξ,o⟩
 .rw[(m w).2.2.1]at z;rw[(m w).2.2.2.1];exact H.zz w h z
def tY(s:PS)(t:Nat):List aH:=gA s++(wS s++(((List.range s.l.tl).flatMap λj=>if j=t then[]else j7 s j)++s.cx))
def IK(a:t<s.l.tl):(gS s).Perm (oR s.k.A 2 [i6 s.l.tl] true::(j7 s t++tY s t)):=by
 refine(jw s a).trans ?_;unfold tX tY;exact j8 λf=>χ
def Rs(H:TI s)(m:t<s.l.tl)(g:wn<s.l.wl)(p:s.cm wn=none):(gS (s.nH t wn k i T c en eb u ba bt bu bl bc bw f')).Perm (oR s.k.A 2 [i6 ((s.l.tl:Int)+1)] true::wF T s.k.A s.l.tl (s.l.tk t).c c::dO T (.pointer none) (.slice none 0 0) false false::fR ⟨0,0,none⟩ 1 (λ_=>[]) 0 true::oR bc 0 [i6 0,.nilIface,.nilIface] true::oR ba 0 [ptr s.k.A] false::oR bt 0 [ptr T] false::oR bu 0 [u] false::oR bl 0 [ptr (s.k.lb k)] false::oR bw 0 [ptr (s.wb wn)] false::([dO (s.T t) (j9 s.wb (s.l.tk t).o) (su f' ((s.bl t).length+1)) (s.l.tk t).x (s.l.tk t).e,fR ⟨f'.g,f'.o,none⟩ 1 f'.v (rK f') true,wF (s.T t) s.k.A t (s.l.tk t).c (s.aS t)]++tY s t)):=by
 obtain⟨b,a⟩:∃b,b=s.nH t wn k i T c en eb u ba bt bu bl bc bw f':=⟨_,rfl⟩
 have q:∀w,nJ (b.l.wt w)=nJ (s.l.wt w)/\(b.l.wt w).t=(s.l.wt w).t:=λw=>by
  rw[a];by_cases e:w=wn
  .subst e;simp[LS.begin,LS.put,upd,nJ]
  .simp[LS.begin,LS.put,upd,e]
 have l:∀j,j<s.l.tl->b.T j=s.T j/\b.aS j=s.aS j:=λj d=>by rw[a];exact⟨af (iS d),af (iS d)⟩
 have r:∀j,j<s.l.tl->b.l.tk j=s.l.tk j:=λj d=>by rw[a];exact af (iS d)
 have wr:∀w,w<s.l.wl->wR b w=wR s w++(if w=wn then[oR bc 0 [i6 0,.nilIface,.nilIface] true]else[]):=λw h=>by
  let⟨v,o,n⟩:=H.wt w h;unfold wR;rw[(q w).1,(q w).2,n,mY,(l v o).1,show b.wb=s.wb by rw[a]];have:lf b w=lf s w++(if w=wn then[oR bc 0 [i6 0,.nilIface,.nilIface] true]else[]):=by
   unfold lf;rw[show b.cm w=upd s.cm wn (some (bc,[i6 0,.nilIface,.nilIface])) w by rw[a]];by_cases e:w=wn
   .subst e;simp[upd,p]
   .simp[upd,e]
  simp_all
 have h:(wS b).Perm (oR bc 0 [i6 0,.nilIface,.nilIface] true::wS s):=by
  have o:=nI (wR s) (λj=>if j=wn then[]else wR s j) wn (sJ rfl) (λj d=>af d) s.l.wl;have n:=nI (wR b) (λj=>if j=wn then[]else wR b j) wn (sJ rfl) (λj d=>af d) s.l.wl;have e:((List.range s.l.wl).flatMap λj=>if j=wn then[]else wR b j)=(List.range s.l.wl).flatMap λj=>if j=wn then[]else wR s j:=by
   rw[List.flatMap_def,List.flatMap_def];congr 1;simp_all
  rw[sJ g,e,wr wn g,sJ rfl]at n;rw[sJ g]at o;unfold wS;rw[show b.l.wl=s.l.wl by rw[a];rfl];refine n.trans (List.Perm.trans ?_ (o.symm.cons _));simp
 have q:b.l.tl=s.l.tl+1:=by rw[a];rfl
 have p:j7 b t=[dO (s.T t) (j9 s.wb (s.l.tk t).o) (su f' ((s.bl t).length+1)) (s.l.tk t).x (s.l.tk t).e,fR ⟨f'.g,f'.o,none⟩ 1 f'.v (rK f') true,wF (s.T t) s.k.A t (s.l.tk t).c (s.aS t)]:=by
  unfold j7;rw[(l t m).1,(l t m).2,r t m,show b.bf t=f' by rw[a];exact sJ rfl,show b.bl t=s.bl t++[s.l.tl] by rw[a];exact sJ rfl,show b.wb=s.wb by rw[a],show b.k=s.k by rw[a],YA,List.length_singleton]
 have g:s.l.tl≠t:=Nat.ne_of_gt m;have i:j7 b s.l.tl=[dO T (.pointer none) (.slice none 0 0) false false,fR ⟨0,0,none⟩ 1 (λ_=>[]) 0 true,wF T s.k.A s.l.tl (s.l.tk t).c c]:=by
  unfold j7;rw[show b.bf s.l.tl=XY by rw[a];simp[upd,g],show b.bl s.l.tl=[] by rw[a];simp[upd,g],show b.T s.l.tl=T by rw[a];exact sJ rfl,show b.aS s.l.tl=c by rw[a];exact sJ rfl,show b.k=s.k by rw[a],show b.l.tk s.l.tl=⟨(s.l.tk t).c,wn,k+1,-1,false,false,-1,λ_=>0,λ_=>0⟩ by rw[a];exact sJ rfl];rfl
 have m:((List.range s.l.tl).flatMap λj=>if j=t then[]else j7 b j)=(List.range s.l.tl).flatMap λj=>if j=t then[]else j7 s j:=by
  rw[List.flatMap_def,List.flatMap_def];congr 1;refine u7 λj d=>?_;by_cases e:j=t
  .simp_all
  .rw[af e,af e];have c:=aZ.1 d;have d:j≠s.l.tl:=iS c;unfold j7;rw[(l j c).1,(l j c).2,r j c,show b.bf j=s.bf j by rw[a];simp[upd,e,d],show b.bl j=s.bl j by rw[a];simp[upd,e,d],show b.wb=s.wb by rw[a],show b.k=s.k by rw[a]]
 rw[<-a];refine(IK (t:=t) ω).trans ?_;unfold tY;rw[p,q,rj,yZ,m,List.flatMap_singleton,af g,i,show b.k=s.k by rw[a],show gA b=gA s by rw[a];rfl,show b.cx=oR ba 0 [ptr s.k.A] false::oR bt 0 [ptr T] false::oR bu 0 [u] false::oR bl 0 [ptr (s.k.lb k)] false::oR bw 0 [ptr (s.wb wn)] false::s.cx by rw[a]];refine((((h.append_right _).append_left (gA s)).append_left _).cons _).trans ?_;rw[show(((s.l.tl+1:Nat):Nat):Int)=(s.l.tl:Int)+1 by omega];exact j8 λf=>by simp only[List.map_append,nP,uf,List.sum_append,List.sum_cons,List.sum_nil,um,List.nil_append];omega
end
def Sat.aam{a:Addr}{f:eX}(h:Sat I w M):Sat I w (fR a 1 f 0 true::M):=by
 have c:∀j:Ix,¬(fR a 1 f 0 true).has j:=λj b=>absurd b.1 (uk _);rw[sat_iff]at h ⊢;refine⟨λr a=>?_,iG.2 ⟨λr _ _ j _ b=>absurd b (c j),h.2⟩⟩;rcases ak.1 a with rfl|a
 .exact⟨λj b=>absurd b (c j),λj b=>absurd b (c j),λ_ j _ b=>absurd b (c j),λ_ _ _ z=>by cases z⟩
 simp_all
def PV.okT{Wy:dh}{s:PS}(P:PV I s es)(up:∀(a:Addr)(wr:Bool),a.block≠T->I a wr->Wy a wr)(b:∀a,s.ea=some a->a.block≠T)(b:s.eb.c=1->s.eb.E≠T)(b:∀k,k<s.k.V.nl->(s.k.V.ly k).k=4\/(s.k.V.ly k).k=5->(s.f k).s=true->(s.f k).g≠T)(b:∀j,j<s.l.tl->(s.bf j).s=true->(s.bf j).g≠T):PV Wy s es:=
 ⟨⟨P.jr.row,P.jr.le,P.jr.mx,λa c b wr h=>up b wr ξ (P.jr.PD a c b wr h)⟩,P.en,λc=>⟨(P.eo c).1,λa wr h=>up a wr ω ((P.eo c).2 a wr h)⟩,λk a d=>⟨(P.fb k a d).nil,(P.fb k a d).len,λc b wr h=>up b wr ξ ((P.fb k a d).ok c b wr h),(P.fb k a d).val⟩,λk a d=>⟨(P.rm k a d).nil,(P.rm k a d).len,λc b wr h=>up b wr ξ ((P.rm k a d).ok c b wr h),(P.rm k a d).val⟩,P.cx,λj a=>⟨(P.bg j a).nil,(P.bg j a).len,λc b wr h=>up b wr ξ ((P.bg j a).ok c b wr h),(P.bg j a).val⟩⟩
def On{y:ju}{a:Nat}{g:Gt}{f:Fb}(b:y.k=4):fR ⟨f.g,0,none⟩ 1 f.v (f.o+f.c) true∈gR y a g f q:=by unfold gR;simp_all
def XR{s:PS}(P:PV I s es)(h:Sat I w M)(d:∀r∈gS s,r∈M)(a:k<s.k.V.nl)(b:(s.k.V.ly k).k=4\/(s.k.V.ly k).k=5)(c:(s.f k).s=true):(s.f k).g<w.heap.size:=by
 rcases b with b|e
 .have f:=(P.fb k a b).len c;exact h.blk (d _ (K4 a _ (On b))) (j:=(0,0)) ⟨χ,aD⟩
 .exact BF h d a e c
def pmA{bl bw bc a k j i h g e d c b:aH}:(z::bw::bl::(P++(k::j::i::h::g::e::([d,c,b]++(a::((bc::bl::bw::R)++(Y++O))))))).Perm (bc::(z::bw::bl::(P++(k::j::i::h::g::e::([d,c,b]++(a::((bl::bw::R)++(Y++O)))))))):=
 j8 λf=>by simp only[List.map_append,nP,List.sum_append,List.sum_cons,um,List.nil_append];omega
def pmB{bl bw bc a k j i h g e d c b:aH}:(bc::(z::bw::bl::(P++(k::j::i::h::g::e::([d,c,b]++(a::((bl::bw::R)++(Y++O)))))))).Perm (P++(a::((bl::bw::R)++((k::j::i::z::bc::h::e::g::bl::bw::([d,c,b]++Y))++O)))):=
 j8 λf=>by simp only[List.map_append,nP,List.sum_append,List.sum_cons,um,List.nil_append];omega
def Sat.bo{q:Nat}{a:iO}(h:Sat I w (bR q a::M)):Sat I w (oR q 0 a true::M):=
 h.G7 0 rfl (oR q 0 a true) (λj a=>⟨a,ψ,rfl⟩) (λ_=>rfl) rfl
structure Cm(E:TE γ)(D:PK)(t:Nat)(p:γ)(s:PS)(w:aj)(R:aW):Prop where
 sat:Sat (E.Ok p) w (pM s++(E.me D t::(R++E.P p s)))
 pv:PV (E.Ok p) s (bA s)
 qi:QI s
 ti:TI s
 fl:Flat (R++E.O p)
 bd:E.Bd p<=w.heap.size
 hk:s.k=D
 tn:t<s.l.tl
 hT:s.T t=E.T/\s.aS t=E.ch/\(s.l.tk t).c=E.c
 JN:∀j,j<s.l.tl->(s.T j,s.aS j)∈E.Ch p
def Mv(W:jF E D Lf t){p:γ}{s:PS}(C:Cm E D t p s w (bR bc [i6 0,.nilIface,.nilIface]::oR bl 0 [ptr (D.lb k)] false::oR bw 0 [ptr (s.wb wn)] false::R))(hw:wn<s.l.wl)(Qd:(s.l.wt wn).t=t)(Dy:(s.l.wt wn).l=k)(ZR:k<D.V.nl)(h6:(D.V.ly k).k=6)(hx:(s.l.wt wn).x=false)(XJ:s.cm wn=none)(Yb:s.l.tl<9990)(rZ:s.l.al<1000000)(U5:0<=s.l.now/\s.l.now<1000000000000)(K:∀n i T c en eb ba bt bu f' w',E.O n=E.O p->E.s0 n=E.s0 p->E.pS n=E.pS p->Cm E D t n (s.nH t wn k i T c en eb (.func (.func 185) #[] #[ptr bl,ptr bc,ptr bw]) ba bt bu bl bc bw f') w' (oR bl 0 [ptr (D.lb k)] false::oR bw 0 [ptr (s.wb wn)] false::R)->(f'.g=(s.bf t).g/\(s.bf t).s=true\/w.heap.size<=f'.g)->w.heap.size<=w'.heap.size->E.Ψ n (G (cf.finish (ptr T)) J) w'):
 E.Ψ p (G (Frame.enter prog 184 #[ptr E.T,.func (.func 185) #[] #[ptr bl,ptr bc,ptr bw]] .normal) (cf::J)) w:=by
 have F:=W.f p;have V:=W.hB p;have G:=C.bd;have N:=C.hk;have hA:s.k.A=D.A:=by rw[N]
 let⟨v,P,G,_⟩:=C.ti.cl t C.tn;have G:E.c=v:=by rw[<-C.hT.2.2];exact P
 obtain⟨cv,Z2⟩:∃cv,cv=j9 s.wb (s.l.tk t).o:=⟨_,rfl⟩;have G:=C.pv.bg t C.tn;let⟨base,Bl,Q,hle,hnn⟩:=G.base;have hlen:(s.bl t).length<1000000:=by
  have h6:=oX ((C.ti.ch t C.tn).1.imp fun{a b} h=>iS h) λc hc=>((C.ti.ch t C.tn).2 c hc).2.1;omega
 have b:Sat (E.Ok p) w (pM s++(oR s.k.A 2 [i6 s.l.tl] true::([dO E.T cv (.slice base (s.bl t).length (s.bf t).c) (s.l.tk t).x (s.l.tk t).e,fR ⟨(s.bf t).g,(s.bf t).o,none⟩ 1 (s.bf t).v (rK (s.bf t)) true,wF E.T s.k.A t v E.ch]++(E.me D t::((bR bc [i6 0,.nilIface,.nilIface]::oR bl 0 [ptr (D.lb k)] false::oR bw 0 [ptr (s.wb wn)] false::R)++(tY s t++E.O p)))))):=by
  refine C.sat.perm (eN _ ?_);have h1:=IK (s:=s) C.tn;unfold j7 at h1;rw[C.hT.1,C.hT.2.1,P,<-Z2,Bl]at h1;refine(((h1.append_right (E.O p)).append_left _).cons _).trans ?_;exact j8 λf=>by simp only[List.map_append,nP,List.sum_append,List.sum_cons,um,List.nil_append];omega
 have c:Flat ([dO E.T cv (.slice base (s.bl t).length (s.bf t).c) (s.l.tk t).x (s.l.tk t).e,fR ⟨(s.bf t).g,(s.bf t).o,none⟩ 1 (s.bf t).v (rK (s.bf t)) true,wF E.T s.k.A t v E.ch]++(E.me D t::((bR bc [i6 0,.nilIface,.nilIface]::oR bl 0 [ptr (D.lb k)] false::oR bw 0 [ptr (s.wb wn)] false::R)++(tY s t++E.O p)))):=by
  refine(((Flat.cons (C.fl.left.app (Flat.app (bO.2 λr u=>?_) C.fl.right)) rfl).cons rfl).cons rfl).cons rfl;exact r9 s (λr u=>(C.pv.cx r u).2) r ((IK C.tn).mem_iff.2 (aP _ (gF _ u)))
 refine cJ func184 b 29 λU b b hn x qh b h f=>Rb F V x b h 6 [10,0,0,1,10,0,2,1,10,0,0,1,0,0,0,1] 1 [11] [(16,.func (Fn.func 185) #[] #[ptr bl,ptr bc,ptr bw]),(15,i6 s.l.now),(13,i6 v),(9,ptr s.k.A),(0,ptr E.T)] 6 1 [11] λb b f b h h h=>GM F x b 17 29 #[ptr s.k.A,i6 v,i6 s.l.now,.func (Fn.func 185) #[] #[ptr bl,ptr bc,ptr bw]] ρ ρ δ f λb I7=>AA F V (ff:=185) (k:=s.l.tl) (cl:=v) (es:=bA s) (at':=s.l.now) f.sat C.pv c ω (by rw[jT];exact Nat.lt_of_le_of_lt C.qi.len rZ) ω λba bu l T bt en eb i c hi UT h2 I b f f f=>?_;rw[jT]at hi;have B:oR T 0 [ptr s.k.A,i6 s.l.tl,i6 v,.chan (some l)] false∈pM {s with en:=en,eb:=eb}++(oR s.k.A 2 [i6 ((s.l.tl:Int)+1)] true::oR T 0 [ptr s.k.A,i6 s.l.tl,i6 v,.chan (some l)] false::dO T (.pointer none) (.slice none 0 0) false false::oR ba 0 [ptr s.k.A] false::oR bu 0 [.func (.func 185) #[] #[ptr bl,ptr bc,ptr bw]] false::oR bt 0 [ptr T] false::([dO E.T cv (.slice base (s.bl t).length (s.bf t).c) (s.l.tk t).x (s.l.tk t).e,fR ⟨(s.bf t).g,(s.bf t).o,none⟩ 1 (s.bf t).v (rK (s.bf t)) true,wF E.T s.k.A t v E.ch]++(E.me D t::((bR bc [i6 0,.nilIface,.nilIface]::oR bl 0 [ptr (D.lb k)] false::oR bw 0 [ptr (s.wb wn)] false::R)++(tY s t++E.O p))))):=gF _ (aP _ (bI ..));refine W.born p _ c _ T s.l.tl l 0 v b ω ω h2 (by rw[<-hA];exact Ek B rfl) λn L hO hs0 Ts b b Hg UC=>?_;have h2':Sat (E.Ok n) c _:=h2.OB (Wy:=E.Ok n) (λr _ j _ o=>L _ _ o λz=>by cases z) λr u b j A o=>L _ _ o λ_=>h2.dj u B b rfl A (j':=(0,3)) ⟨aD,(by decide:3<4)⟩;have S:∀r∈gS s,r∈pM s++(E.me D t::((bR bc [i6 0,.nilIface,.nilIface]::oR bl 0 [ptr (D.lb k)] false::oR bw 0 [ptr (s.wb wn)] false::R)++E.P p s)):=λr u=>gF _ (aP _ (gF _ (gU _ u)));have m:=PV.okT (Wy:=E.Ok n) (T:=T) I (λa wr hb o=>L a wr o λ_ z=>hb (by rw[z])) (λa ha z=>?_) (λhc z=>?_) (λk hk h45 hs=>?_) (λj A hs=>?_)
 rotate_left
 .rcases I.jr.row with ⟨z1,_⟩|⟨g,z1,z2⟩
  .grind
  .have z1':s.ea=some ⟨g,0,none⟩:=z1;have hv:vR s.ea 5 (λj=>yt (s.l.ev j)) s.l.el s.ec 73∈pM {s with en:=en,eb:=eb}:=by simp[pM]
   refine h2.dj (gU _ hv) B rfl rfl (j:=(0,0)) (j':=(0,0)) ⟨z2,(by decide:0<5)⟩ ⟨aD,(by decide:0<4)⟩ ?_;rw[z1]at ha;cases ha;show((s.ea.getD ⟨0,0,none⟩).add (0*5)).add 0=(⟨T,0+0,none⟩:Addr)
   rw[z1'];show((⟨g,0,none⟩:Addr).add (0*5)).add 0=_;rw[add_add];grind
 .have hn:0<eb.n:=by
   rcases I.en.2 with ⟨_,_,z3⟩|⟨_,_,_,_,_,_,z,_⟩
   .omega
   .exact z
  have hv:eR eb∈pM {s with en:=en,eb:=eb}:=by simp[pM]
  refine h2.dj (gU _ hv) B rfl rfl (j:=(0,0)) (j':=(0,0)) ⟨χ,hn⟩ ⟨aD,(by decide:0<4)⟩ ?_;grind
 .have:=XR C.pv C.sat S hk h45 hs;grind
 .have:=rG C.sat S A hs;grind
 replace F:=W.f n;replace V:=W.hB n;refine I7.ret _ _ _ _ _ h2' λb B2 f b c=>aq (λM=>bR (B2) [ptr T]::(M)) 1 F V x b f 11 [13,0,1,1] 1 [] [(24,.slice (some ⟨B2,0,none⟩) 1 1),(22,.slice base (List.length (s.bl t)) (s.bf t).c),(18,ptr E.T),(5,ptr T)] 18 1 [11] λb b c CJ b b b=>?_;have H:=m.bg t C.tn;refine Wo t115 δ F V x 22 24 25 15 0 (g:=(s.bf t).g) (o0:=(s.bf t).o) (o:=0) (base:=base) (len:=(s.bl t).length) (cap:=(s.bf t).c) (y:=ptr T) (v:=(s.bf t).v) (n:=rK (s.bf t)) ρ ρ δ rfl rfl (Q.imp (λz=>z.1) λz=>⟨z.1,rfl,z.2.2.2⟩) rfl hnn rfl rfl (λba z=>?_) hle hlen ω ω c λX Z b v4 Y a4 w4 c c h4 z1 z2 z3 c z5 KU O=>?_
 .rcases Q with y|y
  .refine⟨?_,H.ok y.2⟩;have:=rG C.sat S C.tn y.2;omega
  grind
 obtain rfl:b=0:=ω
 rw[show jB (pc prog 184 18 (Bo 1) [11])=pc prog 184 19 [] [11] by kernel_rfl];have S4:St (E.Ok n) w4.heap.size 29 _ _ 0 a4 w4:=⟨KU,h4,rfl⟩;replace S4:=S4.dB [(25,.slice (some ⟨X,Z,none⟩) ((s.bl t).length+1) Y),(18,ptr E.T),(5,ptr T)] rfl;replace O:=O.trans CJ;generalize Bj:w4.heap.size=b at S4;refine bB (λM=>bh 14 (0,1) (.slice (some (Addr.mk X Z none)) (List.length (s.bl t)+1) Y) (M)) 0 F V x qh O S4 9 [14,0,1,1] 1 [] 4 (ptr T) 28 1 [11] λw5 S5 b b=>?_;obtain⟨f',q⟩:∃f':Fb,f'=⟨true,X,Z,Y,v4⟩:=⟨_,rfl⟩;have c:rK f'=0+Y:=by rw[q];unfold rK;simp only[if_true];omega
 have f:Sat (E.Ok n) w5 (bR B2 [ptr T]::(pM {s with en:=en,eb:=eb}++(oR s.k.A 2 [i6 ((s.l.tl:Int)+1)] true::oR T 0 [ptr s.k.A,i6 s.l.tl,i6 v,.chan (some l)] false::dO T (.pointer none) (.slice none 0 0) false false::oR ba 0 [ptr s.k.A] false::oR bu 0 [.func (.func 185) #[] #[ptr bl,ptr bc,ptr bw]] false::oR bt 0 [ptr T] false::([dO E.T cv (.slice (some ⟨X,Z,none⟩) ((s.bl t).length+1) Y) (s.l.tk t).x (s.l.tk t).e,fR ⟨X,Z,none⟩ 1 v4 (0+Y) true,wF E.T s.k.A t v E.ch]++(E.me D t::((bR bc [i6 0,.nilIface,.nilIface]::oR bl 0 [ptr (D.lb k)] false::oR bw 0 [ptr (s.wb wn)] false::R)++(tY s t++E.O p))))))):=S5.sat.cast ρ;let⟨g,h⟩:=C.qi.nH (t:=t) (wn:=wn) (k:=k) (T:=T) (c:=l) (en:=en) (eb:=eb) (u:=.func (.func 185) #[] #[ptr bl,ptr bc,ptr bw]) (ba:=ba) (bt:=bt) (bu:=bu) (bl:=bl) (bc:=bc) (bw:=bw) (f':=f') hi UT;have b:=C.ti.nH (u:=.func (.func 185) #[] #[ptr bl,ptr bc,ptr bw]) (bl:=bl) (bc:=bc) (i:=i) (T:=T) (c:=l) (en:=en) (eb:=eb) (ba:=ba) (bt:=bt) (bu:=bu) (bw:=bw) (f':=f') C.tn hw Qd Dy χ χ hx XJ rfl;refine K n i T l en eb ba bt bu f' w5 hO hs0 Ts ⟨?_,?_,g,b,by rw[hO];exact C.fl.tail,ω,N,BX C.tn,?_,λj A=>?_⟩ ?_ ω
 .have hg:=Rs (k:=k) (i:=i) (T:=T) (c:=l) (en:=en) (eb:=eb) (u:=.func (.func 185) #[] #[ptr bl,ptr bc,ptr bw]) (ba:=ba) (bt:=bt) (bu:=bu) (bl:=bl) (bc:=bc) (bw:=bw) (f':=f') C.ti C.tn hw XJ;have b:s.k.lb k=D.lb k:=by rw[N]
  have g:su f' ((s.bl t).length+1)=.slice (some ⟨X,Z,none⟩) ((s.bl t).length+1) Y:=by rw[q];rfl
  rw[c,g,C.hT.1,C.hT.2.1,P,<-Z2,b]at hg;rw[show f'.g=X by rw[q],show f'.o=Z by rw[q],show f'.v=v4 by rw[q]]at hg;have d1:=(f.tail.get (r:=oR bl 0 [ptr (D.lb k)] false) ⟨rfl,18,rfl⟩).get (r:=oR bw 0 [ptr (s.wb wn)] false) ⟨rfl,20,rfl⟩;have d2:=(Sat.aam (a:=⟨0,0,none⟩) (f:=λ_=>[]) d1);have d3:=(d2.perm pmA).bo;refine d3.perm ?_;show List.Perm _ (pM {s with en:=en,eb:=eb}++(E.me D t::((oR bl 0 [ptr (D.lb k)] false::oR bw 0 [ptr (s.wb wn)] false::R)++(gS (s.nH t wn k i T l en eb (.func (.func 185) #[] #[ptr bl,ptr bc,ptr bw]) ba bt bu bl bc bw f')++E.O n))));rw[hO];refine List.Perm.trans ?_ (((((hg.append_right (E.O p)).append_left (oR bl 0 [ptr (D.lb k)] false::oR bw 0 [ptr (s.wb wn)] false::R)).cons (E.me D t)).append_left (pM {s with en:=en,eb:=eb}))).symm;exact pmB
 .rw[h];have hTc:∀j,j<s.l.tl->∀d∈s.bl j,upd s.T s.l.tl T d=s.T d:=λj A d b=>af (iS ((C.ti.ch j A).2 d b).2.1);refine⟨m.jr,m.en,m.eo,m.fb,m.rm,λr u=>?_,λj A=>?_⟩
  .simp only[ak]at u;rcases u with rfl|rfl|rfl|rfl|rfl|u
   .simp
   .simp
   .simp
   .simp
   .simp
   .exact C.pv.cx r u
  .have V9:j<s.l.tl+1:=A;show G3 (E.Ok n) (upd s.T s.l.tl T) (upd (upd s.bl s.l.tl []) t (s.bl t++[s.l.tl]) j) (upd (upd s.bf s.l.tl XY) t f' j);by_cases e:j=t
   .subst e;simp only[upd,if_true];rw[q];refine(H.wb (Xp:=upd s.T s.l.tl T) (hTc j C.tn)).add (B:=B2) (base:=base) (λa wr hb=>V a wr ω) Q z1 ?_ (z3.imp id λz=>z.1) z5;rw[z2];simp[upd]
   .by_cases e2:j=s.l.tl
    .simp only[upd,af e,sJ e2];exact⟨λ_=>⟨rfl,rfl,rfl⟩,(λz=>by cases z),(λz=>by cases z),(λi hi=>by cases hi)⟩
    .simp only[upd,af e,af e2];exact(m.bg j χ).wb (hTc j ω)
 .have b:upd s.T s.l.tl T t=s.T t:=af (iS C.tn);have e2:upd s.aS s.l.tl l t=s.aS t:=af (iS C.tn);have a:(s.l.begin t wn k).tk t=s.l.tk t:=af (iS C.tn);show upd s.T s.l.tl T t=_/\upd s.aS s.l.tl l t=_/\((s.l.begin t wn k).tk t).c=_;rw[b,e2,a];exact C.hT
 .have V9:j<s.l.tl+1:=A;show(upd s.T s.l.tl T j,upd s.aS s.l.tl l j)∈_;by_cases e:j=s.l.tl
  .subst e;simp only[upd,if_true];exact Hg
  .simp only[upd,af e];exact UC _ (C.JN j ω)
 grind
def pmC{W X:aW}{c b:aH}:(P++(W++(a::b::(c::(R++(X++O)))))).Perm (P++(c::(R++((W++(a::b::X))++O)))):=
 j8 λf=>χ
def Oh(W:jF E D Lf t){p:γ}{s:PS}(C:Cn E D t p s w R)(g:n<s.l.wl)(q:∃k:Nat,(s.l.wt n).l=k/\k<D.V.nl){z:Int}(v:z=2\/z=3)(M:z=2->∀c o,s.cm n=some (c,o)->WA s.cx (.agg o.toArray) b)(B:s.l.al<1000000)(y:0<=s.l.now/\s.l.now<1000000000000){c:aC}(K:∀o w' r,Cn E D t p o w' R->o.l=s.l.qA n z b->o.T=s.T->o.wb=s.wb->w.heap.size<=w'.heap.size->E.Ψ p (G (c.finish (.bool r)) J) w'):
 E.Ψ p (G (Frame.enter prog 181 #[ptr (s.wb n),i6 z] .normal) (c::J)) w:=by
 have F:=W.f p;have N:=W.hB p;have A:=C.bd;have c:=C.hk;let⟨u,x,o⟩:=C.ti.wt n g;have c:=og s (i:=n) g;have G:(pM s++(E.me D t::(R++(gS s++E.O p)))).Perm (pM s++(wR s n++(E.me D t::(R++(wX s n++E.O p))))):=by
  refine List.Perm.trans (eN _ (List.Perm.cons _ (eN _ ?_))) (pQ ..);rw[<-dU];exact c.append_right _
 refine Rp F N (n:=n) (u:=u) (aS:=s.aS u) (b:=b) (C:=E.me D t::(R++(wX s n++E.O p))) v (C.ti.ca g) g o (C.sat.perm G) ((((Gh x).pre _).app _).cons) C.pv C.qi ?_ A (Nat.lt_of_le_of_lt C.qi.len B) y ⟨λh m l f=>?_,λH I i en eb ba bw m o l j L f=>?_⟩
 .have o:∀r∈wX s n,r.row=none:=λr q=>r9 s (λr q=>(C.pv.cx r q).2) r (c.mem_iff.2 (gF _ q));exact Flat.cons (C.fl.left.app (Flat.app (bO.2 o) C.fl.right)) rfl
 .exact K s m false {C with sat:=l.perm G.symm,bd:=by omega} (af h).symm rfl rfl f
 .obtain⟨d,a⟩:∃d:PS,d=s.uQ n i en eb ba bw z b:=⟨_,rfl⟩
  rw[<-a]at l j L;have o:d.l=s.l.fix n z b:=by rw[a]
  have c:Sat (E.Ok p) m (pM d++(E.me D t::(R++(gS d++E.O p)))):=by
   have p:=og d (i:=n) (by rw[a];exact g);have q:(wX d n).Perm (oR ba 0 [ptr s.k.A] false::oR bw 0 [ptr (s.wb n)] false::wX s n):=by rw[a];exact LW
   refine l.perm (pmC.trans (eN _ ?_));exact(List.Perm.cons _ (eN _ ((p.trans (q.append_left _)).append_right _))).symm
  refine K d m true ⟨c,j,L,C.fl,C.eH,ω,C.cp.gc (w:=n) (i:=i) (by rw[a];exact⟨rfl,rfl,rfl,rfl,⟨z,b,v,rfl⟩,g,H,I,ξ,⟨rfl,rfl,rfl⟩,rfl⟩),λk d c=>?_,by rw[a];exact C.ti.uQ v M⟩ (o.trans (sJ ⟨H,I⟩).symm) (by rw[a]) (by rw[a]) f;rw[a];show yV (s.lq k) s.l.wl (s.l.fix n z b).wt k;have h:=C.ln k d c;have e:∀w,((s.l.fix n z b).wt w).l=(s.l.wt w).l/\(((s.l.fix n z b).wt w).x=false->(s.l.wt w).x=false)/\((s.l.fix n z b).wt w).e=(s.l.wt w).e:=λw=>by
   simp only[LS.fix,LS.put,upd];grind
  exact⟨h.pN,λw a=>⟨(h.mem w a).1,by rw[(e w).1];exact(h.mem w a).2⟩,λw p q a l=>h.all w p ξ ((e w).2.1 a) ξ⟩
def RQ(W:jF E D Lf t){p:γ}{s:PS}(C:Cn E D t p s w R)(d:n<s.l.wl)(j:∃k:Nat,(s.l.wt n).l=k/\k<D.V.nl)(k:∀c a,s.cm n=some (c,a)->WA s.cx (.agg a.toArray) b)(f:s.l.al<1000000)(e:0<=s.l.now/\s.l.now<1000000000000){c:aC}(K:∀a w' r,Cn E D t p a w' R->a.l=s.l.qA n 2 b->w.heap.size<=w'.heap.size->E.Ψ p (G (c.finish (.bool r)) J) w'):
 E.Ψ p (G (Frame.enter prog 180 #[ptr (s.wb n)] .normal) (c::J)) w:=by
 have F:=W.f p;have g:=W.hB p;have a:=C.bd;have a:=C.sat;refine cJ func180 a 5 λU a a a a c b i h=>Rb F g a b i 7 [] 1 [] [(3,ptr (s.wb n))] 7 1 [] λb b h b i i i=>ah F a b h 4 181 #[ptr (s.wb n),i6 2] λb b=>Oh W {C with sat:=h.sat,bd:=by omega} d j (.inl rfl) (λ_=>k) f e λf d r d h _ _ e=>b _ _ _ d.sat λb b i b e=>?_;have e:=d.bd;refine UF F g a c b i 2 [] 1 [] 2 (.bool r) 10 1 [] λa c b b=>K f a r {d with sat:=c.sat,bd:=by omega} h ω
def Cn.ZY{p:γ}{s s':PS}(C:Cn E D t p s w R)(b:j<s.l.tl){x e:Bool}(a:s'={s with l:={s.l with tk:=upd s.l.tk j {s.l.tk j with x:=x,e:=e}}})(k:j≠t->e=(s.l.tk j).e)(h:Sat (E.Ok p) w' (pM s++([dO (s.T j) (j9 s.wb (s.l.tk j).o) (su (s.bf j) (s.bl j).length) x e,fR ⟨(s.bf j).g,(s.bf j).o,none⟩ 1 (s.bf j).v (rK (s.bf j)) true,wF (s.T j) s.k.A j (s.l.tk j).c (s.aS j)]++(E.me D t::(R++(tX s j++E.O p))))))(f:w.heap.size<=w'.heap.size):Cn E D t p s' w' R:=by
 have c:∀i,(s'.l.tk i).c=(s.l.tk i).c/\(s'.l.tk i).f=(s.l.tk i).f/\(s'.l.tk i).p=(s.l.tk i).p/\(s'.l.tk i).o=(s.l.tk i).o:=λi=>by
  rw[a];by_cases e:i=j
  .subst e;simp[upd]
  .simp[upd,e]
 have m:j7 s' j=[dO (s.T j) (j9 s.wb (s.l.tk j).o) (su (s.bf j) (s.bl j).length) x e,fR ⟨(s.bf j).g,(s.bf j).o,none⟩ 1 (s.bf j).v (rK (s.bf j)) true,wF (s.T j) s.k.A j (s.l.tk j).c (s.aS j)]:=by
  rw[a];unfold j7;simp[upd]
 have l:tX s' j=tX s j:=by
  unfold tX;have:((List.range s'.l.tl).flatMap λi=>if i=j then[]else j7 s' i)=(List.range s.l.tl).flatMap λi=>if i=j then[]else j7 s i:=by
   rw[show s'.l.tl=s.l.tl by rw[a]];congr 1;funext i;by_cases e:i=j
   .simp_all
   .rw[af e,af e,a];unfold j7;simp[upd,e]
  rw[this,a];rfl
 have b:Sat (E.Ok p) w' (pM s'++(E.me D t::(R++E.P p s'))):=by
  have d:=((jw s' (i:=j) ξ).append_right (E.O p)).append_left (E.me D t::R);rw[m,l,dU]at d;rw[show pM s'=pM s by rw[a];rfl];refine h.perm (eN _ ?_);refine List.Perm.trans ?_ d.symm;exact fA _ (E.me D t::R) _
 refine⟨b,by rw[a];exact{C.pv with},by rw[a];exact{C.qi with},C.fl,C.eH,aT C.bd f,C.cp.gq ⟨by rw[a],by rw[a],by rw[a],by rw[a],by rw[a],by rw[a],by rw[a],by rw[a],by rw[a],λi g=>?_,⟨(c t).1,(c t).2.1,(c t).2.2.1⟩,λ_ _=>ξ,ξ,λ_=>by rw[a]⟩,by rw[a];exact C.ln,C.ti.cg (by rw[a]) ξ ξ c⟩;rw[a];by_cases e:i=j
 .subst e;refine⟨x,?_⟩;simp only[upd,if_true];rw[k g]
 .exact⟨(s.l.tk i).x,by simp[upd,e]⟩
def Cn.its{p:γ}{s:PS}(C:Cn E D t p s w R)(a:j<s.l.tl):Sat (E.Ok p) w (pM s++(j7 s j++(E.me D t::(R++(tX s j++E.O p))))):=by
 refine C.sat.perm (eN _ ?_);have h:=((jw s a).append_right (E.O p)).append_left (E.me D t::R);rw[dU]at h;refine(List.Perm.trans (l₂:=(E.me D t::R)++(gS s++E.O p)) (.refl _) h).trans ?_;exact fA ..
def RV(W:jF E D Lf t){p:γ}{s:PS}(C:Cn E D t p s w R)(i:j<s.l.tl)(v:s.l.al<1000000)(u:0<=s.l.now/\s.l.now<1000000000000){c:aC}(K:∀d w',Cn E D t p d w' R->d.l=s.l.jv j->d.T=s.T->w.heap.size<=w'.heap.size->E.Ψ p (G (c.finish (.tuple #[])) J) w'):
 E.Ψ p (G (Frame.enter prog 188 #[ptr (s.T j)] .normal) (c::J)) w:=by
 have F:=W.f p;have x:=W.hB p;have c:=C.bd;have f:=C.its i;obtain⟨l,b⟩:∃l,l=su (s.bf j) (s.bl j).length:=⟨_,rfl⟩;unfold j7 at f;rw[<-b]at f;have back:∀w',Sat (E.Ok p) w' (pM s++([dO (s.T j) (j9 s.wb (s.l.tk j).o) l (s.l.tk j).x (s.l.tk j).e,fR ⟨(s.bf j).g,(s.bf j).o,none⟩ 1 (s.bf j).v (rK (s.bf j)) true,wF (s.T j) s.k.A j (s.l.tk j).c (s.aS j)]++(E.me D t::(R++(tX s j++E.O p)))))->w.heap.size<=w'.heap.size->Cn E D t p s w' R:=λw' h c=>by
  refine{C with sat:=?_,bd:=by omega};have y:=((jw s i).append_right (E.O p)).append_left (E.me D t::R);unfold j7 at y;rw[dU,<-b]at y;refine h.perm (eN _ (List.Perm.trans ?_ y.symm));exact fA _ (E.me D t::R) _
 rcases C.ti.can j i with p|⟨n,k,p,q,B,E⟩
 .have d:j9 s.wb (s.l.tk j).o=.pointer none:=by rw[p];rfl
  rw[d]at f back;refine cJ func188 f 12 λU H I A a e c w m=>Rb F x a c w 10 [7,0,0,1] 5 [] [] 10 2 [] λG i h b l o t=>cC F h a e b [] (.tuple #[]) ?_;exact K s i (back i h.sat ω) (by unfold LS.jv;simp_all) rfl ω
 .have d:j9 s.wb (s.l.tk j).o=ptr (s.wb n):=by rw[p];rfl
  rw[d]at f back;refine cJ func188 f 12 λU H I A a e c w m=>Rb F x a c w 14 [7,0,0,1,7,0,0,1] 7 [] [(10,ptr (s.wb n))] 14 3 [] λG i h b l o t=>?_;have c:=back i h.sat ω;refine ah F a b h 11 181 #[ptr (s.wb n),i6 3] λb g=>Oh W c q ⟨k,B,by rw[<-C.hk];exact E⟩ (.inr rfl) (b:=⟨0,0,[]⟩) (λz=>by cases z) v u λi b r d k c _ b=>g _ _ _ d.sat λb b h b g=>?_;have g:=d.bd;refine Rb F x a b h 1 [] 1 [] [] 16 3 [] λb h g b j j j=>cC F g a e b [] (.tuple #[]) ?_;exact K i h {d with sat:=g.sat,bd:=by omega} (by rw[k];unfold LS.jv;grind) c ω
def rB(E:TE γ)(D:PK)(t:Nat):Prop:=∀(p:γ)(s:PS)(w:aj)(R:aW)(j0:Nat)(c:aC)(J:cO),Cn E D t p s w R->j0<s.l.tl->D.V.nc<=j0->s.l.tl<9990->
 (∀g u n cap w',n<1000000->Cn E D t p s w' (tR g u n::R)->(∀i,i<n->∃j,u i=s.T j/\j<s.l.tl/\D.V.nc<=j)->w.heap.size<=w'.heap.size->E.Ψ p (G (c.finish (.slice (some g) n cap)) J) w')->
 E.Ψ p (G (Frame.enter prog 187 #[ptr (s.T j0)] .normal) (c::J)) w
def RS(L:LS)(j:Nat):(L.iC j).al=L.al/\(L.iC j).now=L.now/\(L.iC j).tl=L.tl:=by unfold LS.iC;grind
def EF(l:aN):∀L:LS,(l.foldl LS.iC L).al=L.al/\(l.foldl LS.iC L).now=L.now/\(l.foldl LS.iC L).tl=L.tl:=by
 induction l with
 |nil=>simp
 |cons a l b=>
  intro L;have b:=RS L a;simp_all
def aaH(W:jF E D Lf t){p:γ}{u:bU}(x:n<1000000)(a:bU)(Z:∀i,i<n->u i=Tf (a i))(P:∀i,i<n->a i<L0.tl)(hn:O0 U 142)(K:∀b w' A x,Cn E D t p b w' (tR g u n::R)->b.l=((List.range n).map a).foldl LS.iC L0->b.T=Tf->A.defers=[]->w'.heap.size=x->w0.heap.size<=x->St (E.Ok p) x 33 [(11,i6 n),(10,i6 n),(9,.slice (some g) n cap),(2,.slice (some g) n cap)] (pM b++(E.me D t::((tR g u n::R)++E.P p b))) 0 A w'->E.Ψ p (G (U.at A (pc prog 142 15 [] [])) (cf::J)) w'):
 ∀(d i:Nat)(s:PS)(w:aj)(N:Act)(o:Nat),d+i=n->Cn E D t p s w (tR g u n::R)->s.l=((List.range i).map a).foldl LS.iC L0->s.T=Tf->N.defers=[]->w.heap.size=o->w0.heap.size<=o->St (E.Ok p) o 33 [(11,i6 i),(10,i6 n),(9,.slice (some g) n cap),(2,.slice (some g) n cap)] (pM s++(E.me D t::((tR g u n::R)++E.P p s))) 0 N w->E.Ψ p (G (U.at N (pc prog 142 15 [] [])) (cf::J)) w:=by
 intro d;have F:=W.f p;have Q:=W.hB p;have m:=hn.k;induction d with
 |zero=>
  grind
 |succ d V=>
  intro i s w N o d C X Y G d r K;have d:=C.bd;have x:i<n:=ω
  have I:=P i x;have d:s.l.tl=L0.tl:=by rw[X];exact(EF _ _).2.2
  rw[<-d]at I;refine TP F Q m G K 14 [8,i,0,101] 26 [] [(4,ptr (u i)),(11,i6 i),(10,i6 n),(9,.slice (some g) n cap),(2,.slice (some g) n cap)] 29 3 [] [] [(decide ((↑i:Int)<(↑n:Int)),true)] [((↑i:Int),n)] [(1,(i,n))] λa1 T j z d d d=>?_;rw[Z i x,<-Y]at j;have d:Cn E D t p s T (tR g u n::R):={C with sat:=j.sat,bd:=by omega};have O:=d.its I;obtain⟨S,k⟩:∃S,S=su (s.bf (a i)) (s.bl (a i)).length:=⟨_,rfl⟩;unfold j7 at O;rw[<-k]at O;replace j:St (E.Ok p) o 33 _ _ 0 a1 T:=⟨j.env,O,j.sz⟩;have d:wp i=((i+1:Nat):Int):=j6;have c:((List.range (i+1)).map a).foldl LS.iC L0=s.l.iC (a i):=by rw[rj,List.map_append,List.foldl_append,<-X];rfl
  have dB:∀{B A w' b},St (E.Ok p) B 33 [(11,i6 ((i+1:Nat):Int)),(10,i6 n),(9,.slice (some g) n cap),(2,.slice (some g) n cap)] (pM s++([dO (s.T (a i)) (j9 s.wb (s.l.tk (a i)).o) S true (s.l.tk (a i)).e,fR ⟨(s.bf (a i)).g,(s.bf (a i)).o,none⟩ 1 (s.bf (a i)).v (rK (s.bf (a i))) true,wF (s.T (a i)) s.k.A (a i) (s.l.tk (a i)).c (s.aS (a i))]++(E.me D t::((tR g u n::R)++(tX s (a i)++E.O p))))) 0 A w'->w.heap.size<=w'.heap.size->b={s with l:={s.l with tk:=upd s.l.tk (a i) {s.l.tk (a i)with x:=true,e:=(s.l.tk (a i)).e}}}->Cn E D t p b w' (tR g u n::R):=λh w x=>C.ZY I x (λ_=>rfl) (by rw[<-k];exact h.sat) w;by_cases y:(s.l.tk (a i)).e=true
  .rw[y]at j;refine Rb F Q m z j 17 [7,0,3,1] 5 [] [(11,i6 (wp i)),(10,i6 n),(9,.slice (some g) n cap),(2,.slice (some g) n cap)] 46 5 [] λL q f l w x B=>?_;rw[d]at f;rw[show pc prog 142 46 (Bo 5) []=pc prog 142 15 [] [] by kernel_rfl];have H:Cn E D t p s q (tR g u n::R):=by
    have h:=C.ZY (s':={s with l:={s.l with tk:=upd s.l.tk (a i) {s.l.tk (a i)with x:=(s.l.tk (a i)).x,e:=(s.l.tk (a i)).e}}}) I rfl (λ_=>rfl) (w':=q) (by rw[<-k,y];exact f.sat) ω;have e:({s with l:={s.l with tk:=upd s.l.tk (a i) {s.l.tk (a i)with x:=(s.l.tk (a i)).x,e:=(s.l.tk (a i)).e}}}:PS)=s:=by
     have:upd s.l.tk (a i) {s.l.tk (a i)with x:=(s.l.tk (a i)).x,e:=(s.l.tk (a i)).e}=s.l.tk:=fU _ _;rw[this]
    grind
   exact V (i+1) s q L o ω H (by rw[c];unfold LS.iC;grind) Y l ω r ⟨f.env,H.sat,f.sz⟩
  .replace y:(s.l.tk (a i)).e=false:=χ
   rw[y]at j;refine aq (λM=>bh 7 (0,2) (.bool true) (M)) 0 F Q m z j 22 [7,0,3,1,7,0,2,1] 7 [] [(11,i6 (wp i)),(10,i6 n),(9,.slice (some g) n cap),(2,.slice (some g) n cap)] 51 7 [] λL q f l w x B=>?_;rw[d]at f;rw[show pc prog 142 51 (Bo 7) []=pc prog 142 15 [] [] by kernel_rfl];obtain⟨b,v⟩:∃b:PS,b={s with l:={s.l with tk:=upd s.l.tk (a i) {s.l.tk (a i)with x:=true,e:=(s.l.tk (a i)).e}}}:=⟨_,rfl⟩;have H:=@dB _ L q _ ⟨f.env,by rw[y];exact f.sat.cast ρ,f.sz⟩ ω v;exact V (i+1) b q L o ω H (by rw[c,v];unfold LS.iC;grind) χ l ω r ⟨f.env,H.sat,f.sz⟩
def Ju(L:LS)(j:Nat):(L.jv j).now=L.now/\(L.jv j).tl=L.tl/\(L.jv j).al<=L.al+1:=by
 unfold LS.jv LS.qA;split
 .omega
 .split
  .exact⟨rfl,rfl,az _⟩
  omega
def aaG(W:jF E D Lf t){p:γ}{u:bU}(M:n<1000000)(b:bU)(Q:∀i,i<n->u i=Tf (b i))(v:∀i,i<n->b i<L0.tl)(M:∀i,i<=n->(((List.range i).map b).foldl LS.jv L0).al<1000000)(M:0<=L0.now/\L0.now<1000000000000)(N:O0 U 142)(K:∀M w',Cn E D t p M w' (tR g u n::R)->M.l=((List.range n).map b).foldl LS.jv L0->w0.heap.size<=w'.heap.size->E.Ψ p (G (cf.finish (.tuple #[])) J) w'):
 ∀(d i:Nat)(s:PS)(w:aj)(h:Act)(j:Nat),d+i=n->Cn E D t p s w (tR g u n::R)->s.l=((List.range i).map b).foldl LS.jv L0->s.l.tl=L0.tl/\s.l.now=L0.now->s.T=Tf->h.defers=[]->w.heap.size=j->w0.heap.size<=j->St (E.Ok p) j 33 [(26,i6 i),(25,i6 n),(24,.slice (some g) n cap)] (pM s++(E.me D t::((tR g u n::R)++E.P p s))) 0 h w->E.Ψ p (G (U.at h (pc prog 142 30 [false] [])) (cf::J)) w:=by
 intro d;have F:=W.f p;have A:=W.hB p;have a:=N.k;have x:=N.f;induction d with
 |zero=>
  intro i s w h j S C r k z e m q I;have:i=n:=ω
  subst this;have y:=C.bd;have p:decide ((i:Int)<(i:Int))=false:=ψ
  refine TP F A a e I 7 [] 4 [] [] 37 4 [] [] [(decide ((↑i:Int)<(↑i:Int)),false)] [] [] λT L f c l o B=>cC F f a x c [] (.tuple #[]) ?_;exact K s L {C with sat:=f.sat,bd:=by omega} r ω
 |succ d P=>
  intro i s w h j S C r k z e m q I;have y:=C.bd;have d:i<n:=ω
  have O:=v i d;rw[<-k.1]at O;refine TP F A a e I 17 [8,i,0,101] 26 [] [(30,ptr (u i)),(26,i6 i),(25,i6 n),(24,.slice (some g) n cap)] 47 6 [] [] [(decide ((↑i:Int)<(↑n:Int)),true)] [((↑i:Int),n)] [(1,(i,n))] λT L f c l o B=>?_;rw[Q i d,<-z]at f;have d:wp i=((i+1:Nat):Int):=j6;have e:((List.range (i+1)).map b).foldl LS.jv L0=s.l.jv (b i):=by rw[rj,List.map_append,List.foldl_append,<-r];rfl
  refine ah F a c f 31 188 #[ptr (s.T (b i))] λb b=>RV W {C with sat:=f.sat,bd:=by omega} O χ ω λl c e m c j=>b _ _ _ e.sat λb p o b j=>?_;have j:=e.bd;refine Rb F A a b o 7 [] 1 [] [(26,i6 (wp i)),(25,i6 n),(24,.slice (some g) n cap)] 55 6 [] λj b H a g g g=>?_;rw[d]at H;rw[show pc prog 142 55 (Bo 6) []=pc prog 142 30 [false] [] by kernel_rfl];exact P (i+1) l b j p ω {e with sat:=H.sat,bd:=by omega} ξ (by rw[m];exact⟨(Ju _ _).2.1.trans k.1,(Ju _ _).1.trans k.2⟩) (c.trans z) a ω ω H
def Mu(L:LS)(j:Nat):L.al<=(L.jv j).al:=by
 unfold LS.jv LS.qA;split
 .omega
 .split
  .exact Nat.le_succ _
  omega
def I0(l:aN):∀L:LS,L.al<=(l.foldl LS.jv L).al:=by
 induction l with
 |nil=>simp
 |cons a l b=>exact λL=>aT (Mu L a) (b _)
def Jn(W:jF E D Lf t)(v:rB E D t){p:γ}{s:PS}(C:Cn E D t p s w R)(f:j0<s.l.tl)(e:D.V.nc<=j0)(d:s.l.tl<9990)(a:0<=s.l.now/\s.l.now<1000000000000)(l:∀a:List Nat,(∀j∈a,j<s.l.tl/\D.V.nc<=j)->(s.l.cancel a).al<1000000){c:aC}(K:∀b w' a,Cn E D t p b w' R->(∀j∈a,j<s.l.tl/\D.V.nc<=j)->b.l=s.l.cancel a->w.heap.size<=w'.heap.size->E.Ψ p (G (c.finish (.tuple #[])) J) w'):
 E.Ψ p (G (Frame.enter prog 142 #[ptr (s.T j0)] .normal) (c::J)) w:=by
 have F:=W.f p;have o:=W.hB p;have a:=C.bd;have a:=C.sat;refine cJ func142 a 33 λU a a r b a a m k=>Rb F o b a m 3 [] 1 [] [(7,ptr (s.T j0))] 3 1 [] λa q m a k k k=>ah F b a m 8 187 #[ptr (s.T j0)] λk a=>v p s q R j0 k (c::J) {C with sat:=m.sat,bd:=by omega} f e d λg u n cap c k m d c=>a _ _ _ m.sat λa B q e a=>?_;have a:=m.bd;obtain⟨c,f⟩:∃c:Nat->Nat,∀i,i<n->u i=s.T (c i)/\c i<s.l.tl/\D.V.nc<=c i:=by
  refine⟨λi=>if h:i<n then(d i h).choose else 0,λi a=>?_⟩;grind
 have d:∀j∈(List.range n).map c,j<s.l.tl/\D.V.nc<=j:=λj h=>by
  grind
 refine Rb F o b e q 11 [] 1 [] [(11,i6 0),(10,i6 n),(9,.slice (some g) n cap),(2,.slice (some g) n cap)] 15 1 [] λz q v j e e e=>?_;have C3:Cn E D t p s q (tR g u n::R):={m with sat:=v.sat,bd:=by omega};refine aaH W k c (Tf:=s.T) (L0:=s.l) (w0:=w) (λi a=>(f i a).1) (λi a=>(f i a).2.1) r (λp e e A t e m h x x x=>?_) n 0 s q z B (jI _) C3 rfl rfl j ω ω v;have j:=t.bd;have j:decide ((n:Int)<(n:Int))=false:=ψ
 have y:=EF ((List.range n).map c) s.l;rw[<-e]at y;refine TP F o b h x 15 [] 4 [] [(26,i6 0),(25,i6 n),(24,.slice (some g) n cap)] 30 2 [] [] [(decide ((↑n:Int)<(↑n:Int)),false)] [] [] λq o j h b b b=>aaG W k c (Tf:=s.T) (L0:=p.l) (w0:=w) (λi a=>(f i a).1) (λi a=>χ) (λi a=>?_) ω r (λi f k c b=>K i f _ (Cn.drop (X:=[tR g u n]) k C.eH) d (by rw[c,e];rfl) b) n 0 p o q A (jI _) {t with sat:=j.sat,bd:=by omega} rfl ⟨rfl,rfl⟩ m h ω ω (j.dB [(26,i6 ((0:Nat):Int)),(25,i6 n),(24,.slice (some g) n cap)] rfl);have b:=l _ d;refine Nat.lt_of_le_of_lt ?_ b;unfold LS.cancel;rw[<-e,<-Nat.add_sub_of_le a,List.range_add,List.map_append,List.foldl_append];exact I0 _ _
def Fa{V:Ev0}(a:j<V.nl)(b:(V.ly j).k=6)(h:Fin V Lf m (some (t,j,none)) L):∃a,m=a+1/\qm V t L/\
 ((L.tk t).x=true->Fin V Lf a (some (t,j,some (c9 5 j 0))) (L.say t j 16 0))/\
 ((L.tk t).x=false->Fin V Lf a none ((L.wait t j (V.ly j).a true).begin t L.wl j)):=by
 cases m with
 |zero=>exact h.elim
 |succ m=>
  let⟨_,_,_,a,c⟩:=h;have e:(j=V.nl)=False:=θ
  simp only[LS.step,e,if_false,b,af (show¬(6:Int)=1 by decide),af (show¬(6:Int)=3 by decide),af (show¬(6:Int)=4 by decide),af (show¬(6:Int)=5 by decide),if_true,LS.uX,LS.drop]at c;grind
def Yu.own{C:aW}:∀{ch:List iN}{e:ay},Yu C e ch->∃X:List aH,(∀r∈X,Has C r/\r.row=none)/\Yu X e ch
 |[],_,c=>⟨[],(λr a=>by cases a),c⟩
 |x::ch,_,⟨q,b,f,c,d⟩=>by
  let⟨X,_,c⟩:=d.own;exact⟨oR q 0 [i6 x.k,i6 x.l,i6 x.n,b] false::X,λr a=>by
   grind,q,b,f,⟨rfl,0,rfl⟩,c.up λr a=>a.cons⟩
def Sat.RI{I:dh}{w:aj}{M:aW}(h:Sat I w M):∀X:List aH,(∀r∈X,Has M r)->Sat I w (X++M)
 |[],_=>h
 |r::X,a=>(Sat.RI h X λr b=>a r (aP _ b)).get ((a r (bI ..)).app X)
def PB(F:aB prog main (DX I) Ψ)(s:HB B I){C:aW}{a:ay}(p:Sat I w M)(c:B<=w.heap.size)(c:WA C a b)(K:∀w' r,Sat I w' M->w.heap.size<=w'.heap.size->Ov C r b->Ψ (G (ends cf r) J) w'):
 Ψ (G (Frame.enter prog 144 #[a] .normal) (cf::J)) w:=by
 rcases c with ⟨l,rfl⟩|⟨l,q,rfl,u⟩|⟨l,rfl⟩
 .refine cJ func144 p 13 λU t g o a e d n j=>aq (λM=>bR (g) [i6 b.n,.nilIface,.nilIface]::(M)) 1 F s a d n 19 [0,0,2,1,0,0,0,2] 5 [5] [(3,.nilIface),(2,i6 b.n)] 19 2 [5] λr h f c i k m=>cC F f a e c [] (.tuple #[i6 b.n,.nilIface]) ?_;exact K h (.inl (.tuple #[i6 b.n,.nilIface])) f.sat.tail ω (.inl ⟨l,rfl⟩)
 .refine cJ func144 p 13 λU t g o a e d n j=>aq (λM=>bR (g) [i6 0,.iface 184 (ptr q),.nilIface]::(M)) 1 F s a d n 19 [0,0,2,1,0,0,0,2] 5 [5] [(3,.iface 184 (ptr q)),(2,i6 0)] 19 2 [5] λr h f c i k m=>cC F f a e c [] (.tuple #[i6 0,.iface 184 (ptr q)]) ?_;exact K h (.inl (.tuple #[i6 0,.iface 184 (ptr q)])) f.sat.tail ω (.inr (.inl ⟨l,_,rfl,u⟩))
 .refine cJ func144 p 13 λU t g o a e d n j=>aq (λM=>bR (g) [i6 0,.nilIface,.iface 182 (i6 b.n)]::(M)) 1 F s a d n 17 [0,0,2,1,0,0,2,1] 7 [] [(8,.iface 182 (i6 b.n)),(1,ptr g)] 17 3 [] λr h f c i k m=>ZK F o 182 (i6 b.n) ρ f144 func144 c f ?_;exact K h (.inr (.iface 182 (i6 b.n))) f.sat.tail ω (.inr (.inr ⟨l,rfl⟩))
def Ye(W:jF E D Lf t)(B:rB E D t){p:γ}{s:PS}(C:Cn E D t p s w R)(A:j<D.V.nl)(l:qm D.V t s.l)(o:j0<s.l.tl)(n:D.V.nc<=j0)(y:∀a:List Nat,(∀j∈a,j<s.l.tl/\D.V.nc<=j)->Fin D.V Lf m (some (t,j,some (c9 4 j 0))) ((s.l.say t j 15 0).cancel a)){c:aC}(K:∀g w' q,Cn E D t p g w' (oR q 0 [i6 4,i6 j,i6 0,.nilIface] false::R)->Fin D.V Lf m (some (t,j,some (c9 4 j 0))) g.l->(∃a,g.l=(s.l.say t j 15 0).cancel a)->w.heap.size<=w'.heap.size->E.Ψ p (G (c.finish (.tuple #[i6 0,.iface 184 (ptr q)])) J) w'):
 E.Ψ p (G (Frame.enter prog 186 #[ptr (D.lb j),ptr E.T,ptr (s.T j0)] .normal) (c::J)) w:=by
 have F:=W.f p;have v:=W.hB p;have c:=C.bd;have g:=C.sat;have c:=C.eH.lay j A;refine cJ func186 g 21 λU g g g d u g q p=>Rb F v d g q 11 [] 1 [] [(11,ptr E.T),(10,ptr (D.lb j)),(0,ptr (D.lb j)),(2,ptr (s.T j0))] 11 1 [] λg g p g q q q=>ah F d g p 12 148 #[ptr (D.lb j),ptr E.T,i6 15,i6 0] λg g=>CL W {C with sat:=p.sat,bd:=by omega} l.el c λp p q h p t=>g _ _ _ q.sat λg g w g t=>?_;have t:=q.bd;refine Rb F v d g w 4 [] 1 [] [(13,ptr (s.T j0)),(0,ptr (D.lb j))] 16 1 [] λg g t g w w w=>ah F d g t 14 142 #[ptr (s.T j0)] λg g=>?_;rw[<-p];refine Jn W B {q with sat:=t.sat,bd:=by omega} (by rw[h];exact o) n (by rw[h];exact l.tl) (by rw[h];exact l.now) (λa b=>?_) λk l a e b x l=>g _ _ _ (e.sat.get ((c.pre _).cons.app (pM k))) λc i z r c=>?_
 .rw[h]at b ⊢;have:=y a b;cases m with
  |zero=>exact this.elim
  |succ m=>exact this.1.al
 have c:=e.bd;let⟨_,c,_⟩:=xT D (j+1);rw[c]at z;refine aq (λM=>bR (i) [i6 4,i6 j,i6 0,.nilIface]::(M)) 1 F v d r z 45 [0,0,1,1] 1 [] [(7,.iface 184 (ptr i)),(6,i6 0)] 29 1 [] λc l g c m m m=>cC F g d u c [] (.tuple #[i6 0,.iface 184 (ptr i)]) ?_;rw[h]at x b;have f:=y a b;rw[<-x]at f;exact K k l i ⟨((Sat.BC (A:=[oR i 0 [i6 4,i6 j,i6 0,.nilIface] false]) g.sat.fix).perm (gY (A:=pM k))),e.pv,e.qi,e.fl.cons rfl,e.eH.cons,ω,e.cp,e.ln,e.ti⟩ f ⟨a,x⟩ ω
def Cn.N2{p:γ}{s:PS}(C:Cn E D t p s w R)(X:aW)(c:∀r∈X,r.row=none)(h:Sat (E.Ok p) w' (X++(pM s++(j7 s t++(E.me D t::(R++(tX s t++E.O p)))))))(b:w.heap.size<=w'.heap.size):Cn E D t p s w' (X++R):=by
 refine C.more X c (h.perm (eN X (eN _ ?_))) b;have a:=((jw s C.tn).append_right (E.O p)).append_left (E.me D t::R);rw[dU]at a;refine List.Perm.trans ?_ a.symm;exact fA (j7 s t) (E.me D t::R) (tX s t++E.O p)
def pmD{Z:aW}{d b c:aH}:(c::(P++(d::((a::b::R)++Z)))).Perm (P++(d::((a::b::c::R)++Z))):=
 j8 λf=>χ
def Ld{w:Nat}(h:yV q L.wl L.wt k):yV q (L.begin t w j).wl (L.begin t w j).wt k:=by
 have e:∀i,((L.begin t w j).wt i).l=(L.wt i).l/\((L.begin t w j).wt i).x=(L.wt i).x/\((L.begin t w j).wt i).e=(L.wt i).e:=λi=>by
  simp only[LS.begin,LS.put,upd];grind
 exact⟨h.pN,λi a=>⟨(h.mem i a).1,by rw[(e i).1];exact(h.mem i a).2⟩,λi a b b b=>h.all i a ξ ξ ξ⟩
def FD(a:aN)(L:LS)(t:Nat):((L.cancel a).tk t).a=(L.tk t).a/\((L.cancel a).tk t).q=(L.tk t).q:=by
 have a:∀(l:aN)(L:LS),((l.foldl LS.iC L).tk t).a=(L.tk t).a/\((l.foldl LS.iC L).tk t).q=(L.tk t).q:=by
  intro l;induction l with
  |nil=>simp
  |cons x l b=>
   intro L;have:((L.iC x).tk t).a=(L.tk t).a/\((L.iC x).tk t).q=(L.tk t).q:=by
    unfold LS.iC;split
    .simp
    .by_cases e:t=x
     .subst e;simp[upd]
     .simp[upd,e]
   simp_all
 have a:∀(l:aN)(L:LS),(l.foldl LS.jv L).tk=L.tk:=by
  intro l;induction l with
  |nil=>simp
  |cons x l b=>
   intro L;have:(L.jv x).tk=L.tk:=by
    unfold LS.jv LS.qA;split
    .rfl
    .split<;>rfl
   simp_all
 unfold LS.cancel;simp_all
def Ll(W:jF E D Lf t)(FC:rB E D t)(hj:j<D.V.nl)(hk:(D.V.ly j).k=6):dV E D Lf t j:=by
 intro m p s w R c J C w m K;rw[show iq D.V j=183 by unfold iq;grind];have F:=W.f p;have Y:=W.hB p;have m:=C.bd;obtain⟨m0,rfl,hs,Tz,QM⟩:=Fa hj hk w;have m:=W.V.li j hj hk;have m:=C.eH.Tn j hj hk;let⟨_,w,ev,_,o,_,bv,A,g,ch,VW⟩:=vq C.cp.hT.1;have hm:=C.mine;rw[VW]at hm;have g:=hm.get (r:=oR (D.lb j) 3 [i6 (D.V.ly j).a] false) ((((m.pre _).cons).app _).app (pM s));refine cJ Tryz.func183 g 50 λU g a hn d qh g S0 m=>?_;by_cases hx:(s.l.tk t).x=true
 .have Tz:=Tz hx;rw[hx]at S0 VW;refine aq (λM=>bR (a) [ptr (D.lb j)]::(M)) 1 F Y d g S0 32 [9,0,2,1,0,0,0,1] 7 [] [(14,ptr E.T),(13,ptr (D.lb j))] 19 3 [] λa1 m S1 Nt o w o9=>?_;have C1:Cn E D t p s m ([bR a [ptr (D.lb j)]]++R):=C.N2 [bR a [ptr (D.lb j)]] (λr hr=>ξ) (by rw[VW];exact Sat.BC (A:=[_]) S1.sat) ω;refine ah F d Nt S1 15 159 #[ptr (D.lb j),ptr E.T] λyS I7=>wv W (Cn.drop C1 C.eH) hj hs.el λs4 w4 q C4 e4 FO=>I7 _ _ _ C4.sat λa4 B4 S4 Vx Bj=>?_;have VH:=C4.bd;refine Rb F Y d Vx S4 5 [] 1 [] [(5,.iface 184 (ptr q)),(4,i6 0)] 25 3 [] λa5 w5 S5 Yv Y5 Dw qO=>cC F S5 d qh Yv [] (.tuple #[i6 0,.iface 184 (ptr q)]) ?_;rw[<-e4]at Tz;exact K m0 p s4 w5 [oR q 0 [i6 5,i6 j,i6 0,.nilIface] false] (.inl (.tuple #[i6 0,.iface 184 (ptr q)])) (c9 5 j 0) ω ω {C4 with sat:=S5.sat,bd:=by omega} Tz (.inr (.inl ⟨rfl,_,rfl,q,.nilIface,rfl,⟨rfl,0,rfl⟩,rfl⟩)) (λi H=>by rw[e4];rfl) (λi H=>by rw[e4];rfl)
 replace hx:(s.l.tk t).x=false:=ξ
 have QM:=QM hx;rw[hx]at S0 VW;refine aq (λM=>bR (a+1) [i6 0,.nilIface,.nilIface]::(bR (a) [ptr (D.lb j)]::(M))) 2 F Y d g S0 38 [9,0,2,1,1,0,0,1,2,0,0,1] 5 [] [(22,i6 (D.V.ly j).a),(18,ptr E.T),(6,ptr (a+1)),(2,ptr a),(1,ptr E.T)] 25 2 [] λa1 m S1 Nt o w o9=>?_;have C1:Cn E D t p s m ([bR (a+1) [i6 0,.nilIface,.nilIface],oR a 0 [ptr (D.lb j)] false]++R):=C.N2 [bR (a+1) [i6 0,.nilIface,.nilIface],oR a 0 [ptr (D.lb j)] false] (λr hr=>by simp at hr;rcases hr with rfl|rfl<;>rfl) (by rw[VW];exact Sat.BC (A:=[_,_]) (Sat.yg [_] S1.sat)) ω;refine ah F d Nt S1 23 161 #[ptr E.T,i6 (D.V.ly j).a] λyS I7=>lG W C1 hs.al hs.now hj ⟨ω,ω⟩ λi x en eb g h2 Uz Q2 T2 H g g=>I7 _ _ _ h2 λg n S2 DF g=>?_;obtain⟨l,P⟩:∃l:PS,l=s.cB t j (D.V.ly j).a i x en eb true:=⟨_,rfl⟩;rw[<-P]at h2 Uz Q2 T2 S2;have m:l.k=D:=by rw[P];exact C.hk
 have I:l.l=s.l.wait t j (D.V.ly j).a true:=by rw[P]
 have Xj:l.wb s.l.wl=x:=by rw[P];exact sJ rfl
 refine aq (λM=>bR (n) [ptr x]::(M)) 1 F Y d DF S2 7 [0,0,0,1] 1 [] [(25,.func (Fn.func 185) #[] #[ptr a,ptr (a+1),ptr n]),(24,ptr E.T),(7,ptr n),(6,ptr (a+1)),(2,ptr a),(1,ptr E.T)] 33 2 [] λg w A o g g g=>?_;have g:Sat (E.Ok p) w (pM l++(E.me D t::((bR (a+1) [i6 0,.nilIface,.nilIface]::oR a 0 [ptr (D.lb j)] false::oR n 0 [ptr (l.wb s.l.wl)] false::R)++E.P p l))):=by
  rw[Xj];exact A.sat.fix.perm pmD
 have u:l.l.tl=s.l.tl:=by rw[I];rfl
 have Q3:l.T=s.T/\l.aS=s.aS:=ξ
 have C3:Cm E D t p l w (bR (a+1) [i6 0,.nilIface,.nilIface]::oR a 0 [ptr (D.lb j)] false::oR n 0 [ptr (l.wb s.l.wl)] false::R):=⟨g,Uz,Q2,T2,((C.fl.cons rfl).cons rfl).cons rfl,ω,m,by rw[u];exact C.tn,by rw[Q3.1,Q3.2];refine⟨C.cp.hT.1,C.cp.hT.2.1,?_⟩;rw[I];simp only[LS.wait,LS.cB,LS.put,upd,if_true];exact C.cp.hT.2.2,λj hj=>by rw[Q3.1,Q3.2];exact C.cp.JN j ω⟩;refine GM F d o 26 184 #[ptr E.T,.func (Fn.func 185) #[] #[ptr a,ptr (a+1),ptr n]] ρ ρ δ A λg Nv=>Mv W C3 (wn:=s.l.wl) (k:=j) (by rw[I];exact gr _) (by rw[I];simp[LS.wait,LS.cB,LS.put,upd]) (by rw[I];simp[LS.wait,LS.cB,LS.put,upd]) hj hk (by rw[I];simp[LS.wait,LS.cB,LS.put,upd]) (by rw[P];exact sJ rfl) (by rw[u];exact hs.tl) (by
  rw[I];have:((s.l.wait t j (D.V.ly j).a true).begin t s.l.wl j).al<1000000:=by
   cases m0 with
   |zero=>exact QM.elim
   |succ m0=>exact QM.1
  exact Nat.lt_of_succ_lt this) (by rw[I];exact hs.now) λp' i2 T cc g m ba bt bu f' w4 o hs0 o C4 hfg FO=>Nv.ret _ _ _ _ _ C4.sat λa4 B4 S4 Vx Bj=>?_
 obtain⟨N,CG⟩:∃N:PS,N=l.nH t s.l.wl j i2 T cc g m (.func (.func 185) #[] #[ptr a,ptr (a+1),ptr n]) ba bt bu a (a+1) n f':=⟨_,rfl⟩;have B:Cm E D t p' N w4 (oR a 0 [ptr (D.lb j)] false::oR n 0 [ptr (l.wb s.l.wl)] false::R):=ξ
 replace S4:St (E.Ok p') B4 50 [(26,ptr T),(7,ptr n),(6,ptr (a+1)),(2,ptr a),(1,ptr E.T)] (pM N++(E.me D t::((oR a 0 [ptr (D.lb j)] false::oR n 0 [ptr (l.wb s.l.wl)] false::R)++E.P p' N))) 0 a4 w4:=⟨(S4.dB [(26,ptr T),(7,ptr n),(6,ptr (a+1)),(2,ptr a),(1,ptr E.T)] rfl).env,B.sat,S4.sz⟩;rw[Xj]at S4 B;have VH:=B.bd;replace F:=W.f p';replace Y:=W.hB p';refine Rb F Y d Vx S4 6 [9,0,0,1] 1 [] [(27,ptr x),(8,ptr T),(6,ptr (a+1)),(2,ptr a),(1,ptr E.T)] 40 2 [] λa5 w5 S5 Yv Y5 Dw qO=>GM F d Yv 28 152 #[ptr x] ρ ρ δ S5 λLO ZT=>?_;obtain⟨Z8,JY⟩:∃Z8:PS,Z8={l with cm:=upd l.cm s.l.wl (some (a+1,[i6 0,.nilIface,.nilIface]))}:=⟨_,rfl⟩
 have o:JL t s Z8 j (D.V.ly j).a i x ⟨0,0,[]⟩ true:=by
  rw[JY,P];refine⟨rfl,rfl,rfl,rfl,(E5 ..).symm,⟨rfl,rfl,rfl⟩,λi H=>?_⟩;show upd (upd s.cm s.l.wl none) s.l.wl _ i=s.cm i;simp[upd,iS H]
 have m:Gm Z8 N:=.inr ⟨by rw[JY];show l.l.tl<9990;rw[u];exact hs.tl,t,s.l.wl,j,i2,T,cc,_,by rw[CG,JY];exact⟨rfl,rfl,rfl,rfl,rfl,⟨rfl,rfl,rfl⟩,rfl⟩⟩;have Qp:N.l=(s.l.wait t j (D.V.ly j).a true).begin t s.l.wl j:=ξ
 have Rf:N.T s.l.tl=T:=by rw[CG];show upd l.T l.l.tl T s.l.tl=T;rw[u];exact sJ rfl
 have g:N.l.tl=s.l.tl+1:=by rw[Qp];rfl
 have g:Cp E D t p' s:=⟨by rw[hs0];exact C.cp.gu,C.cp.hk,C.cp.tn,C.cp.hT,C.cp.mo,λi H=>by
  have:=B.JN i ω;have p:N.T i=s.T i:=by rw[CG];show upd l.T l.l.tl T i=_;rw[u,Q3.1];exact af (iS H)
  have e2:N.aS i=s.aS i:=by rw[CG];show upd l.aS l.l.tl cc i=_;rw[u,Q3.2];exact af (iS H)
  simp_all⟩
 refine W.wait p' s Z8 N w5 i x j (D.V.ly j).a ⟨0,0,[]⟩ true LO _ (oR a 0 [ptr (D.lb j)] false::oR n 0 [ptr x] false::R) m0 g C.ti ω (λ_=>hj) o m B.JN S5.sat B.pv B.qi B.ti (λk g m=>?_) (λk g m h6=>?_) (λi H h6=>?_) B.fl C.eH.cons.cons ω ξ ω λO f w6 m' z o Vh C' f1 f2 f3 f4 f5 f6=>ZT.ret _ _ _ _ _ C'.sat λa6 B6 S6 DE o=>?_
 .rw[Qp,show N.lq=s.lq by simp_all];have:=C.lnw (ly:=j) (d:=(D.V.ly j).a) (b:=⟨0,0,[]⟩) (cb:=true) (λ_=>ω) k g m;rw[E5]at this;exact Ld this
 .rw[show N.f=s.f by simp_all]at h6 ⊢;have:=C1.row g m h6;omega
 .have old:∀i,i<s.l.tl->(s.bf i).s=true->(s.bf i).g<x:=λi H h=>by
   have:=rG C1.sat C1.Ej H h;omega
  have eb:N.bf=upd (upd s.bf s.l.tl XY) t f':=ξ
  rw[eb]at h6 ⊢;by_cases e:i=t
  .simp only[upd,sJ e]at h6 ⊢;rcases hfg with ⟨y1,y2⟩|y
   .rw[show l.bf=s.bf by rw[P]]at y1 y2;rw[y1];have:=old t C.tn y2;omega
   .omega
  .by_cases e2:i=s.l.tl
   .simp only[upd,af e,sJ e2]at h6;cases h6
   .simp only[upd,af e,af e2]at h6 ⊢;grind
 have g:=C'.bd;replace F:=W.f O;replace Y:=W.hB O;let⟨Z5,hzx⟩:=f5;have m:(z=3/\Fin D.V Lf m' (some (t,j,some (c9 5 j 0))) (f.l.say t j 16 0))\/(z=1/\∀oL:List Nat,(∀i∈oL,i<f.l.tl/\D.V.nc<=i)->Fin D.V Lf m' (some (t,j,some (c9 4 j 0))) ((f.l.say t j 15 0).cancel oL))\/(z=2/\Fin D.V Lf m' (some (t,j,some (f.l.wt s.l.wl).b)) f.l):=by
  rcases f1.2 with ⟨_,z,_⟩|⟨k,g,Ng,g⟩
  .omega
  .rw[f2]at Ng;have:k=j:=ω
   simp_all
 have Y6:=f1.1;rcases m with ⟨rfl,L⟩|⟨rfl,L⟩|⟨rfl,L⟩
 .refine Rb F Y d DE S6 20 [8,0,0,1] 29 [] [(42,ptr E.T),(41,ptr (D.lb j))] 61 12 [] λa7 w7 S7 CI OD YQ DJ=>ah F d CI S7 43 159 #[ptr (D.lb j),ptr E.T] λRU v=>wv W {C' with sat:=S7.sat,bd:=by omega} hj Y6.el λm w8 q Z k IV=>v _ _ _ Z.sat λa8 B8 S8 Q FN=>?_;have g:=Z.bd;refine Rb F Y d Q S8 5 [] 1 [] [(5,.iface 184 (ptr q)),(4,i6 0)] 67 12 [] λa9 w9 S9 QH Tl He X4=>cC F S9 d qh QH [] (.tuple #[i6 0,.iface 184 (ptr q)]) ?_;rw[<-k]at L;exact K m' O m w9 [oR q 0 [i6 5,i6 j,i6 0,.nilIface] false,oR a 0 [ptr (D.lb j)] false,oR n 0 [ptr x] false] (.inl (.tuple #[i6 0,.iface 184 (ptr q)])) (c9 5 j 0) ω Vh {Z with sat:=S9.sat,bd:=by omega} L (.inr (.inl ⟨rfl,_,rfl,q,.nilIface,rfl,⟨rfl,0,rfl⟩,rfl⟩)) (λi H=>by rw[k];show(f.l.tk t).a i=_;rw[f4]) (λi H=>by rw[k];show(f.l.tk t).q i=_;rw[f6])
 .have o:f.T s.l.tl=T:=((Z5.T s.l.tl ω).1).trans Rf;refine Rb F Y d DE S6 13 [8,0,0,1] 7 [] [(33,ptr T),(32,ptr E.T),(31,ptr (D.lb j))] 54 6 [] λa7 w7 S7 CI OD YQ DJ=>ah F d CI S7 34 186 #[ptr (D.lb j),ptr E.T,ptr T] λRU v=>?_;rw[<-o];have o:=Z5.tl;refine Ye W FC {C' with sat:=S7.sat,bd:=by omega} hj Y6 ω (by rw[<-C.hk];exact C.ti.nc) L λm w8 q Z o ⟨oL,k⟩ IV=>v _ _ _ Z.sat λa8 B8 S8 Q FN=>?_;have g:=Z.bd;refine Rb F Y d Q S8 5 [] 1 [] [(5,.iface 184 (ptr q)),(4,i6 0)] 60 6 [] λa9 w9 S9 QH Tl He X4=>cC F S9 d qh QH [] (.tuple #[i6 0,.iface 184 (ptr q)]) ?_;have DG:=FD oL (f.l.say t j 15 0) t;rw[<-k]at DG;exact K m' O m w9 [oR q 0 [i6 4,i6 j,i6 0,.nilIface] false,oR a 0 [ptr (D.lb j)] false,oR n 0 [ptr x] false] (.inl (.tuple #[i6 0,.iface 184 (ptr q)])) (c9 4 j 0) ω Vh {Z with sat:=S9.sat,bd:=by omega} o (.inr (.inl ⟨rfl,_,rfl,q,.nilIface,rfl,⟨rfl,0,rfl⟩,rfl⟩)) (λi H=>by rw[DG.1];show(f.l.tk t).a i=_;rw[f4]) (λi H=>by rw[DG.2];show(f.l.tk t).q i=_;rw[f6])
 .have VS:s.l.wl<f.l.wl:=ga (by rw[Qp];exact gr _) Z5.wl;let⟨hx9,Tl⟩:=hzx δ;have g:(f.cm s.l.wl).map Prod.fst=some (a+1):=by
   rw[(Z5.wb s.l.wl (by rw[Qp];exact gr _)).2,CG];show(upd l.cm s.l.wl _ s.l.wl).map Prod.fst=_;simp[upd]
  obtain⟨g,hvs⟩:∃g,f.cm s.l.wl=some (a+1,g):=by
   simp_all
  obtain⟨⟨v0,v1,v2,rfl⟩,_,V⟩:=C'.ti.cm s.l.wl VS _ _ hvs;replace V:=V hx9 Tl;generalize (f.l.wt s.l.wl).b=b at V L;have pw:(pM f++(E.me D t::((oR a 0 [ptr (D.lb j)] false::oR n 0 [ptr x] false::R)++(gS f++E.O O)))).Perm (pM f++(wR f s.l.wl++(E.me D t::((oR a 0 [ptr (D.lb j)] false::oR n 0 [ptr x] false::R)++(wX f s.l.wl++E.O O))))):=by
   refine List.Perm.trans (eN _ (List.Perm.cons _ (eN _ ?_))) (pQ ..);rw[<-dU];exact(og f VS).append_right _
  have g:wR f s.l.wl=[oR (f.wb s.l.wl) 1 [i6 (nJ (f.l.wt s.l.wl))] true,oR (f.wb s.l.wl) 0 [ptr (f.T (f.l.wt s.l.wl).t.toNat)] false,oR (a+1) 0 [v0,v1,v2] true]:=by unfold wR lf;rw[hvs]
  rw[g]at pw;replace S6:St (E.Ok O) B6 50 _ _ 0 a6 w6:=⟨S6.env,C'.sat.perm pw,S6.sz⟩;refine Rb F Y d DE S6 19 [9,0,0,3] 21 [] [(46,.agg #[aH.get (aH.mk (λj=>Addr.mk (a+1) (0+j.snd) none) [v0,v1,v2] (λx g=>undef) 1 3 true none) (0,0),aH.get (aH.mk (λj=>Addr.mk (a+1) (0+j.snd) none) [v0,v1,v2] (λx g=>undef) 1 3 true none) (0,1),aH.get (aH.mk (λj=>Addr.mk (a+1) (0+j.snd) none) [v0,v1,v2] (λx g=>undef) 1 3 true none) (0,2)])] 60 8 [] λa7 w7 S7 CI OD YQ DJ=>?_;replace S7:St (E.Ok O) B6 50 [(46,.agg #[v0,v1,v2])] _ 0 a7 w7:=S7;refine GM F d CI 47 144 #[.agg #[v0,v1,v2]] ρ ρ δ S7 λRU v=>PB F Y S7.sat ω V λw8 r g IV hr=>?_;have Z:Cn E D t O f w8 (oR a 0 [ptr (D.lb j)] false::oR n 0 [ptr x] false::R):={C' with sat:=g.perm pw.symm,bd:=by omega}
  obtain⟨X,C9,hr9⟩:∃X,Cn E D t O f w8 (X++R)/\Ov X r b:=by
   rcases hr with ⟨hb,rfl⟩|⟨hb,e,rfl,he⟩|⟨hb,rfl⟩
   .exact⟨[oR a 0 [ptr (D.lb j)] false,oR n 0 [ptr x] false],Z,.inl ⟨hb,rfl⟩⟩
   .let⟨X,g,l⟩:=he.own;have k:∀r∈X,Has (pM f++(E.me D t::((oR a 0 [ptr (D.lb j)] false::oR n 0 [ptr x] false::R)++E.P O f))) r:=λr hr=>by
     have m:Has (gS f) r:=((((g r hr).1.app (tS f)).cons).app _).app _;exact((((m.pre (E.O O)).app _)).cons).app _
    have h2:=Z.more X (λr hr=>(g r hr).2) (Z.sat.RI X k) (az _);refine⟨X++[oR a 0 [ptr (D.lb j)] false,oR n 0 [ptr x] false],ξ,.inr (.inl ⟨hb,e,rfl,l.up λr hr=>hr.pre _⟩)⟩
   .exact⟨[oR a 0 [ptr (D.lb j)] false,oR n 0 [ptr x] false],Z,.inr (.inr ⟨hb,rfl⟩)⟩
  have Zs:=hr9;have a:(∃S e0,r=.inl (.tuple #[i6 S,e0]))\/r=.inr (.iface 182 (i6 b.n)):=by
   rcases hr9 with ⟨_,h⟩|⟨_,e,h,_⟩|⟨_,h⟩
   .simp_all
   .simp_all
   simp_all
  have e:=C9.bd;rcases a with ⟨S,e0,rfl⟩|rfl
  .refine v.ret _ _ _ _ _ C9.sat λa8 B8 S8 Q FN=>Rb F Y d Q S8 5 [] 1 [] [(5,YtobagnjnbmgidabGreatDoor.ev [(4,i6 S),(49,#[i6 S,e0][1]),(48,i6 S),(47,.tuple #[i6 S,e0]),(46,.agg #[v0,v1,v2])] (Operand.tmp 49)),(4,i6 S)] 66 8 [] λa9 w9 S9 QH Tl He X4=>cC F S9 d qh QH [] (.tuple #[i6 S,Array.getD (Az 50 [(5,YtobagnjnbmgidabGreatDoor.ev [(4,i6 S),(49,#[i6 S,e0][1]),(48,i6 S),(47,.tuple #[i6 S,e0]),(46,.agg #[v0,v1,v2])] (Operand.tmp 49)),(4,i6 S)]) 5 undef]) ?_;exact K m' O f w9 X (.inl (.tuple #[i6 S,e0])) b ω Vh {C9 with sat:=S9.sat,bd:=by omega} L Zs (λi H=>by rw[f4]) (λi H=>by rw[f6])
  .obtain⟨a8,t8,rfl,Q,a⟩:=v.NO;show E.Ψ O (G ((U.at a8 t8).raise (je (.iface 182 (i6 b.n)))) (c::J)) w8;rw[raise_at hn.m];refine F.lJ Q (by rw[qh];rfl) ?_;exact K m' O f w8 X (.inr (.iface 182 (i6 b.n))) b ω Vh C9 L Zs (λi H=>by rw[f4]) (λi H=>by rw[f6])
def Sat.MI{p g cap:Nat}:∀(L:iO)(o:Nat)(w:aj)(M:aW)(v:eX),Sat I w M->nth M p=some (fR ⟨g,0,none⟩ 1 v cap true)->o+L.length<=cap->∃b,Sat I (w.setCells g o L) (cG M p (fR ⟨g,0,none⟩ 1 b cap true))/\(∀j,j<o->(b j).getD 0 undef=(v j).getD 0 undef)/\∀j u,L[j]? =some u->(b (o+j)).getD 0 undef=u
 |[],o,w,M,v,h,c,e=>⟨v,h.re p c rfl v (λ_ _ _ _=>rfl),λ_ _=>rfl,λj u a=>by simp at a⟩
 |y::L,o,w,M,v,h,c,e=>by
  simp only[gB]at e;have a:(fR ⟨g,0,none⟩ 1 v cap true).has (o,0):=⟨χ,aD⟩;have l:(fR ⟨g,0,none⟩ 1 v cap true).ad (o,0)=⟨g,o,none⟩:=by simp[ey]
  have k:=h.set c rfl a rfl y;rw[l]at k;have i:=k.re p (kG _ c) rfl (λj=>[if j=o then y else(v j).getD 0 undef]) (λj a f l=>by
   have h:f<1:=l;obtain rfl:f=0:=ω
   simp only[aH.set,JD];simp)
  rw[jM]at i;have f:Sat I (w.setCell ⟨g,o,none⟩ y) (cG M p (fR ⟨g,0,none⟩ 1 (λj=>[if j=o then y else(v j).getD 0 undef]) cap true)):=i;let⟨b,d,_,g⟩:=Sat.MI L (o+1) _ _ _ f (kG _ c) ω;rw[jM]at d;refine⟨b,d,λj a=>?_,λj u a=>?_⟩
  .grind
  grind
def uY(b o:Nat):∀(a:iO)(i:Nat)(w:aj)(es:dS),(∀j,j<a.length->(w.cell? ⟨b,o+i+j,none⟩).isSome=true)->(∀j,j<a.length->w.frozen? ⟨b,o+i+j,none⟩=false)->(∀v∈a,v.oneCell'=true)->∀ev∈(storeCells ⟨b,o,none⟩ a i).events prog w es,ev∈es\/∃a,ev.loc=.cell a/\a.block=b
 |[],i,w,es,_,_,_,ev,h=>.inl (by simpa [storeCells]using h)
 |v::r,i,w,es,k,g,c,ev,h=>by
  have a:(⟨b,o,none⟩:Addr).add i=⟨b,o+i,none⟩:=by rw[ey]
  let⟨u,f⟩:=Option.isSome_iff_exists.1 (k 0 ψ);have d:=g 0 ψ;simp only[jI]at f d;simp only[storeCells,YV,a]at h;rw[run_store prog w _ v _ (c v ψ),events_store prog w _ _ v _ (c v ψ),f]at h;simp[d]at h;rcases uY b o r (i+1) _ _ (λj a=>by
   rw[qa _ _ _ _ (λe=>ξ)];have:=k (j+1) θ;grind) (λj a=>by
   rw[YB];have:=g (j+1) θ;grind) (λx a=>c x (by simp[a])) ev h with a|a
  .grind
  simp_all
def Hl(o:Qc prog T e 1 bt=true)(w:aj)(m:TypeId)(i:Nat){b:Nat}{f:Addr}{L:iO}(r:∀(j:Nat)(u:ay),L[j]? =some u->w.cell? (f.add j)=some u)(v:∀u∈L,u.oneCell'=true)(k:∀j,j<L.length->(w.cell? ⟨b,n+j,none⟩).isSome=true)(k:∀j,j<L.length->w.frozen? ⟨b,n+j,none⟩=false)(t:n+L.length<=c):
 (Builtin.append_ #[T,T] m #[.slice (some ⟨b,0,none⟩) n c,.slice (some f) L.length i]).run prog w=.ok (.slice (some ⟨b,0,none⟩) (n+L.length) c) (w.setCells b n L)/\
 ∀ev∈(Builtin.append_ #[T,T] m #[.slice (some ⟨b,0,none⟩) n c,.slice (some f) L.length i]).events prog w #[],(∃a,ev.loc=.cell a/\ev.write=false/\a.block=f.block)\/∃a,ev.loc=.cell a/\a.block=b:=by
 let⟨inf,z,q,p,_,k,_,_,u⟩:=kv o;have s:=run_append_room_cells (P:=prog) w T m e inf q p b 0 n c f L.length i L ξ r v t (λj m=>ξ) (λj m=>ξ);rw[k,lm,bK]at s;refine⟨s,λev d=>?_⟩;have g:=run_firstCells_some (P:=prog) w inf.size L.length f L.length i L ξ r;simp[Builtin.append_,run_underlying q,sizeOf,typeInfo,p,Builtin.lenOf,t,ey,k]at d;rw[k]at g;simp only[g,xg]at d;rcases uY b n L 0 w _ ω ω v ev d with d|d
 .rcases events_firstCells_in (P:=prog) (·=f.block) 1 L.length _ w _ (λa l c e=>by
   simp_all) ev d with h|⟨a,a,a,a⟩
  .simp at h
  simp_all
 simp_all
def Ec(b:Nat):∀(L:iO)(o:Nat)(w:aj),(w.setCells b o L).heap.size=w.heap.size/\((w.setCells b o L).os=w.os/\(w.setCells b o L).tape=w.tape/\(w.setCells b o L).output=w.output)/\∀k,k≠b->(w.setCells b o L).heap[k]? =w.heap[k]?
 |[],_,_=>⟨rfl,⟨rfl,rfl,rfl⟩,λ_ _=>rfl⟩
 |v::L,o,w=>by
  let⟨f,⟨e,c,a⟩,d⟩:=Ec b L (o+1) (w.setCell ⟨b,o,none⟩ v);refine⟨by rw[World.setCells,f];simp,⟨by rw[World.setCells,e];rfl,by rw[World.setCells,c];rfl,by rw[World.setCells,a];rfl⟩,λk a=>?_⟩;rw[World.setCells,d k a];simp[World.setCell,sU,Ne.symm a]
def yA(b:Nat):∀(L:iO)(o d:Nat)(w:aj),(w.at d).setCells b o L=(w.setCells b o L).at d
 |[],_,_,_=>rfl
 |v::L,o,d,w=>by
  rw[World.setCells,World.setCells,<-yA b L (o+1) d (w.setCell ⟨b,o,none⟩ v)];rfl
def apT(C:Qc prog T e 1 bt=true)(TB:bt<=8)(F:aB prog main (DX I) Ψ)(hB:HB B I){b:aC}(hk:b.kind=.normal){B' N:Nat}{E:Env}{a:Act}{t:eC}(s x d p:Nat){g len:Nat}{xv:ay}{L:iO}(ho:kI t=true)(UZ:oD (aQ t) s x d T=true)(hd:d<N)(hs:look E s=some (.slice (some ⟨g,0,none⟩) len cap))(hx:look E x=some xv)(hX:xv=.slice none 0 0/\L=[]\/∃m A,xv=.slice (some m) L.length A/\(∀(j:Nat)(u:ay),L[j]? =some u->w.cell? (m.add j)=some u)/\(0<L.length->m.block<w.heap.size/\∀a:Addr,a.block=m.block->I a false))(h1:∀u∈L,u.oneCell'=true)(W:nth M p=some (fR ⟨g,0,none⟩ 1 v cap true))(hg:g<w.heap.size/\∀(m:Addr)(wr:Bool),m.block=g->I m wr)(hle:len<=cap)(hq:len+L.length<1000000)(hBB:B<=B')(S:St I B' N E M c a w)(K:∀B R Q a' w',Sat I w' (cG M p (fR ⟨B,0,none⟩ 1 R Q true))->(∀j,j<len->(R j).getD 0 undef=(v j).getD 0 undef)->(∀(j:Nat)(u:ay),L[j]? =some u->(R (len+j)).getD 0 undef=u)->(B=g\/w.heap.size<=B)->w.heap.size<=w'.heap.size->len+L.length<=Q->aR ((d,.slice (some ⟨B,0,none⟩) (len+L.length) Q)::E) N a'->a'.defers=a.defers->Ψ (G (b.at a' (jB t)) J) w'):Ψ (G (b.at a t) J) w:=by
 let⟨d,i,r,D,B,H,hn⟩:=dH ho;let⟨g1,g2,g3⟩:=mh UZ;have h:∀q v,look E q=some v->a.eval (.tmp q)=v:=λq v hq=>by rw[S.env.eval (by simp[kn,hq])];simp[ev,hq]
 have P:=S.sat;have q:=S.sz;have ZX:HB w.heap.size I:=λa wr z=>hB a wr ω;rw[B];have V:∀q A,xv=.slice q 0 A->L=[]->Ψ (G (b.at a (.inRegion d (i::r)::D)) J) w:=λq A y O=>by
  subst y;subst O;refine aB.app0 C F H (by simp[Region.wanted,g1]) ξ (.tmp s) (.tmp x) g3 (h s _ hs) (h x _ hx) (λz=>by cases z) hle ?_;rw[<-hn,g2];exact K g v cap _ w (P.re p W rfl v (λ_ _ _ _=>rfl)) (λ_ _=>rfl) (λj u n=>by simp at n) (.inl rfl) (az _) ω (S.env.put hd) (put_defers _ _ _)
 rcases hX with ⟨y,O⟩|⟨m,A,y,Y,X⟩
 .exact V _ _ y O
 by_cases a:L=[]
 .exact V (some m) A ξ a
 have hl:0<L.length:=χ
 subst y;by_cases hc:len+L.length<=cap
 ··have l:∀j,j<L.length->(w.cell? ⟨g,len+j,none⟩).isSome=true/\w.frozen? ⟨g,len+j,none⟩=false:=λj n=>by
    have a:(fR ⟨g,0,none⟩ 1 v cap true).has (len+j,0):=⟨χ,aD⟩;have b:(fR ⟨g,0,none⟩ 1 v cap true).ad (len+j,0)=⟨g,len+j,none⟩:=by simp[ey]
    have b:=P.val p _ W _ a;have b:=((P.ok p _ W _ a).2 rfl).2;grind
   let⟨R,q1,q2,q3⟩:=Sat.MI L len w M v P W hc;let⟨a,b,i⟩:=Ec g L len w;refine F.OA H (by simp[Region.wanted,g1]) χ λd' a a=>?_;let⟨hr,d⟩:=Hl C (w.at d') (aQ t).type A (b:=g) (n:=len) (c:=cap) Y h1 (λj n=>(l j n).1) (λj n=>(l j n).2) hc;rw[yA]at hr;refine uponK_append (.tmp s) (.tmp x) T g3 (h s _ hs) (h x _ hx) hr (a _ _ ⟨WG (g:=some g) (λe a=>?_) ⟨b.1,b.2.1,b.2.2,by show w.heap.size<=(w.setCells g len L).heap.size;omega,λk _ hk=>i k (λz=>hk (by rw[z]))⟩ (λU e=>?_) (λm wr e=>hg.2 m wr χ),F.at' _ (w.setCells g len L) d' ?_⟩)
   .have hm:=mem_listed a;rw[events_append_op (.tmp s) (.tmp x) T g3 (h s _ hs) (h x _ hx)]at hm;rcases d e hm with ⟨a,y,O,b⟩|⟨a,y,b⟩
    .exact .inl ⟨a,y,rfl,by rw[O];exact(X hl).2 a b,by rw[b];show m.block<(w.setCells g len L).heap.size;omega⟩
    .exact .inl ⟨a,y,rfl,hg.2 a _ b,by rw[b];show g<(w.setCells g len L).heap.size;omega⟩
   .cases e;have:=(l 0 hl).1;unfold World.cell? at this;cases hh:w.heap[g]? with
    |none=>grind
    |some o=>cases o with
     |cells c t f=>exact⟨c,t,f,hh⟩
     |_=>grind
   .rw[<-hn,g2];exact K g R cap _ _ q1 q2 q3 (.inl rfl) ω hc (S.env.put hd) (put_defers _ _ _)
 ··refine aB.Om C ω F H (by simp[Region.wanted,g1]) χ (.tmp s) (.tmp x) g3 (olds:=(List.range len).map λj=>(v j).getD 0 undef) (news:=L) (h s _ hs) (h x _ hx) ψ (λba Z j u n=>?_) (λz=>by cases z) ψ Y h1 ω ω (λU Z=>χ) (X hl) λQ rs a a a Dz=>?_
   .have qN:j<len:=χ
    have:=P.val p _ W (j,0) ⟨χ,aD⟩;cases Z;simp only[aH.get,lm,ey,jI,bK]at this;rw[ey,bK,this];grind
   .rw[<-hn,g2];subst Dz;have h2:=P.R0 ZX (((List.range len).map (λj=>(v j).getD 0 undef)++L).toArray++rs) e;have O:(((List.range len).map (λj=>(v j).getD 0 undef)++L).toArray++rs).size=Q:=θ
    rw[O]at h2;refine K w.heap.size _ Q _ _ (h2.inst p) (λj n=>?_) (λj u n=>?_) (.inr (az _)) ψ ω (S.env.put hd) (put_defers _ _ _)
    .grind
    .have qN:j<L.length:=(lg.1 n).1;rw[ve θ];simp[vf,n]
structure Sb(s:PS)(j0 i:Nat)(ms:aN):Prop where
 nd:ms.Nodup
 le:i<=ms.length
 mem:∀x∈ms,j0<=x/\x<s.l.tl/\s.k.V.nc<=x
 fa:∀x∈ms,x=j0\/∃k w:Nat,k<i/\∃y,ms[k]? =some y/\(s.l.tk x).f=w/\(s.l.wt w).t=y
def Sb.next{s:PS}(h:TI s){ms:aN}(F:Sb s j0 i ms)(g:ms[i]? =some j):Sb s j0 (i+1) (ms++s.bl j):=by
 have f:i<ms.length:=(lg.1 g).1;have f:j∈ms:=sQ g;let⟨_,s,B⟩:=F.mem j f;let⟨f,p⟩:=h.ch j s;refine⟨List.nodup_append.2 ⟨F.nd,f.imp fun{a b} z=>iS z,λx c y A e=>?_⟩,θ,λx c=>?_,λx c=>?_⟩
 .subst e;let⟨v,u,t,w,o,r,n⟩:=p x A;rcases F.fa x c with z|⟨k,w',q,y,m,l,a⟩
  .omega
  .have:w'=w:=ω
   subst this;have d:y=j:=ω
   subst d;have:=(List.getElem?_inj ω F.nd).1 (m.trans g.symm);omega
 .rcases dJ.1 c with c|c
  .exact F.mem x c
  grind
 .rcases dJ.1 c with c|c
  .rcases F.fa x c with z|⟨k,w,q,y,m,l⟩
   .exact .inl z
   .exact .inr ⟨k,w,ω,y,χ,l⟩
  .let⟨v,u,t,w,o,r,n⟩:=p x c;exact .inr ⟨i,w,gr _,j,χ,o,n⟩
def Sb.len{s:PS}{ms:aN}(F:Sb s j0 i ms):ms.length<=s.l.tl:=oX F.nd λx a=>(F.mem x a).2.1
def Sat.part(h:Sat I w (r::M))(m:r.wr=true)(c:r'.row=none)(b:∀j d,r'.has j->r'.has d->r'.ad j=r'.ad d->j=d)(k:∀j,r'.has j->∃i,r.has i/\r'.ad j=r.ad i/\r'.get j=r.get i):Sat I w (r'::M):=by
 rw[sat_iff]at h ⊢;let⟨c,o⟩:=h;have H:=c r (bI ..);refine⟨λx f=>?_,iG.2 ⟨λx f c j d a l e=>?_,(iG.1 o).2⟩⟩
 .rcases ak.1 f with rfl|f
  .refine⟨λj a=>?_,λj a=>⟨?_,λz=>?_⟩,λz=>b,λg e n z=>?_⟩
   .let⟨i,b,c,e⟩:=k j a;rw[c,e];exact H.val i b
   .let⟨i,b,c,e⟩:=k j a;rw[c];exact(H.ok i b).1
   .let⟨i,b,c,e⟩:=k j a;rw[c];exact(H.ok i b).2 m
   simp_all
  simp_all
 .let⟨i,b,c,e⟩:=k j a;exact(iG.1 o).1 x f (.inl m) i d b l ξ
def Jd(c:g.spot=none):∀j a:Ix,(fR g 1 v n true).has j->(fR g 1 v n true).has a->(fR g 1 v n true).ad j=(fR g 1 v n true).ad a->j=a:=λj a d b e=>by
 let⟨_,go,f⟩:=g;simp only at c;subst c;have f:j.2<1:=d.2;have d:a.2<1:=b.2;simp only[ey,lm,Addr.mk.injEq]at e;grind
def Sat.Pu(h:Sat I w (r::M))(b:r'.wr=false)(b:r'.row=none)(k:∀j,r'.has j->∃i,r.has i/\r'.ad j=r.ad i/\r'.get j=r.get i):Sat I w (r'::M):=by
 rw[sat_iff]at h ⊢;let⟨b,l⟩:=h;have H:=b r (bI ..);refine⟨λx d=>?_,iG.2 ⟨λx d b j m a f e=>?_,(iG.1 l).2⟩⟩
 .rcases ak.1 d with rfl|d
  .refine⟨λj a=>?_,λj a=>⟨?_,λz=>?_⟩,λz=>?_,λg e n z=>?_⟩
   .let⟨i,b,c,e⟩:=k j a;rw[c,e];exact H.val i b
   .let⟨i,b,c,e⟩:=k j a;rw[c];exact(H.ok i b).1
   .simp_all
   .simp_all
   simp_all
  simp_all
 .let⟨i,b,c,e⟩:=k j a;refine(iG.1 l).1 x d (.inr ?_) i m b f ξ;simp_all
def NR{I:dh}{w:aj}{M:aW}{s:PS}:∀(ms:aN),Sat I w M->(∀x∈ms,wF (s.T x) s.k.A x (s.l.tk x).c (s.aS x)∈M)->Sat I w (ms.map (λx=>oR (s.T x) 1 [i6 x] false)++M)
 |[],h,_=>h
 |x::ms,h,a=>by
  have c:=NR ms h λy b=>a y (aP _ b);let⟨i,b⟩:=lP (gF (ms.map (λx=>oR (s.T x) 1 [i6 x] false)) (a x (bI ..)));have a:=c.get ⟨rfl,i,b⟩;refine a.Pu rfl rfl λj a=>⟨(j.1,1),⟨a.1,(by decide:1<4)⟩,?_,?_⟩
  .have:j.2<1:=a.2;simp_all
  .have:j.2<1:=a.2;let⟨_,a⟩:=j;simp only at this;obtain rfl:a=0:=ω
   rfl
def X3(hF:∀p,aB prog false (DX (E.Ok p)) (E.Ψ p))(hBB:∀p,∀(a:Addr)(wr:Bool),E.Bd p<=a.block->E.Ok p a wr){p:γ}{s:PS}{c:aC}(C:Cn E D t p s w0 R)(Yb:s.l.tl<9990)(hn:O0 U 187)(K:∀g u n cap w',n<1000000->Cn E D t p s w' (tR g u n::R)->(∀i,i<n->∃j,u i=s.T j/\j<s.l.tl/\D.V.nc<=j)->w0.heap.size<=w'.heap.size->E.Ψ p (G (c.finish (.slice (some g) n cap)) J) w'):
 ∀(d i:Nat)(ms:aN)(g cap:Nat)(v:eX)(H:Act)(w:aj)(o:Nat),d+i=s.l.tl->Sb s j0 i ms->(∀j x,ms[j]? =some x->(v j).getD 0 undef=ptr (s.T x))->ms.length<=cap->g<w.heap.size->(∀(Q:Addr)(wr:Bool),Q.block=g->E.Ok p Q wr)->H.defers=[]->w.heap.size=o->w0.heap.size<=o->
   St (E.Ok p) o 25 [(4,i6 (i:Nat)),(3,.slice (some ⟨g,0,none⟩) ms.length cap)] (fR ⟨g,0,none⟩ 1 v cap true::(pM s++(E.me D t::(R++E.P p s)))) 0 H w->E.Ψ p (G (U.at H (pc prog 187 17 [] [])) (c::J)) w:=by
 intro d;have F:=hF p;have P:=hBB p;have m:=hn.k;have qh:=hn.f;have n:=C.bd
 have fin:∀(i:Nat)(ms:aN)(g cap:Nat)(v:eX)(H:Act)(w:aj)(o:Nat),Sb s j0 i ms->i=ms.length->(∀j x,ms[j]? =some x->(v j).getD 0 undef=ptr (s.T x))->ms.length<=cap->g<w.heap.size->(∀(Q:Addr)(wr:Bool),Q.block=g->E.Ok p Q wr)->H.defers=[]->w.heap.size=o->w0.heap.size<=o->
  St (E.Ok p) o 25 [(4,i6 (i:Nat)),(3,.slice (some ⟨g,0,none⟩) ms.length cap)] (fR ⟨g,0,none⟩ 1 v cap true::(pM s++(E.me D t::(R++E.P p s)))) 0 H w->E.Ψ p (G (U.at H (pc prog 187 17 [] [])) (c::J)) w:=by
  intro i ms g cap v H w o e him hv l hg A B M N L;have hml:=e.len;have n:decide ((i:Int)<(ms.length:Int))=false:=θ
  refine TP F P m B L 13 [] 4 [] [(22,.slice (some ⟨g,0,none⟩) (List.length ms) cap),(3,.slice (some ⟨g,0,none⟩) (List.length ms) cap)] 30 2 [] [] [(decide ((↑i:Int)<(↑(List.length ms):Int)),false)] [] [] λa1 w1 I W zS Dx o9=>?_;have n:∀k,k<ms.length->ms[k]? =some (ms.getD k 0):=λk T=>ξ
  have G:Sat (E.Ok p) w1 (tR ⟨g,0,none⟩ (λk=>s.T (ms.getD k 0)) ms.length::(pM s++(E.me D t::(R++E.P p s)))):=by
   refine Sat.part I.sat rfl rfl (Jd rfl) λj O=>⟨(j.1,0),⟨by have:j.1<ms.length:=O.1;grind,aD⟩,?_,?_⟩
   .have:j.2<1:=O.2;simp_all
   .have h9:j.2<1:=O.2;have h8:j.1<ms.length:=O.1;show List.getD [ptr (s.T (ms.getD j.1 0))] j.2 undef=(v j.1).getD 0 undef;simp_all
  have h3:=NR (s:=s) ms G λx Z=>aP _ (gF _ (aP _ (gF _ (gU _ ((jw s (e.mem x Z).2.1).mem_iff.2 (by simp[j7]))))));have h4:=h3.perm (eY (l₁:=ms.map (λx=>oR (s.T x) 1 [i6 x] false)));have hT:fS (λb=>∃x,b=s.T x/\x<s.l.tl/\D.V.nc<=x) (ms.map (λx=>oR (s.T x) 1 [i6 x] false)++(pM s++(E.me D t::(R++E.P p s)))) (λk=>s.T (ms.getD k 0)) ms.length:=λk T=>by
   have G:=sQ (n k T);let⟨_,x2,n⟩:=e.mem _ G;refine⟨⟨(ms.getD k 0:Nat),ms.getD k 0,rfl,x2,by rw[<-C.hk];exact n⟩,Has.pre (C:=ms.map (λx=>oR (s.T x) 1 [i6 x] false)) ?_ _⟩;let⟨i',KG⟩:=lP (gV.2 ⟨ms.getD k 0,G,rfl⟩:oR (s.T (ms.getD k 0)) 1 [i6 (ms.getD k 0:Nat)] false∈ms.map (λx=>oR (s.T x) 1 [i6 x] false));exact⟨rfl,i',KG⟩
  replace I:St (E.Ok p) o 25 _ _ 0 a1 w1:=⟨I.env,h4,I.sz⟩;refine ah F m W I 23 189 #[.slice (some ⟨g,0,none⟩) (List.length ms) cap,.func (Fn.func 190) #[] #[]] λn n=>O9 F P ω I.sat hT ω λu w2 G h5 G=>n _ _ _ h5 λa2 n S2 V tM=>UF F P m qh V S2 6 [] 1 [] 2 (.slice (some ⟨g,0,none⟩) (List.length ms) cap) 37 2 [] λS S3 n n=>K ⟨g,0,none⟩ u ms.length cap S ω (C.more [tR ⟨g,0,none⟩ u ms.length] (λr hr=>ξ) ?_ ω) (λk T=>by let⟨y,_⟩:=G k T;exact y.2) ω;exact S3.sat.sub (List.Sublist.cons_cons _ (D8 _ _))
 induction d with
 |zero=>
  intro i ms g cap v H w o hi e hv l hg A B M N L;have hml:=e.len;have:=e.le;exact fin i ms g cap v H w o e ω hv l hg A B M N L
 |succ d ih=>
  intro i ms g cap v H w o hi e hv l hg A B M N L;have hml:=e.len;by_cases him:i<ms.length
  .obtain⟨j,O⟩:∃j,ms[i]? =some j:=⟨_,mZ him⟩
   let⟨_,j2,d⟩:=e.mem j (sQ O);obtain⟨fv,FV⟩:∃fv,fv=su (s.bf j) (s.bl j).length:=⟨_,rfl⟩
   have pe:(fR ⟨g,0,none⟩ 1 v cap true::(pM s++(E.me D t::(R++E.P p s)))).Perm (fR ⟨g,0,none⟩ 1 v cap true::(pM s++([dO (s.T j) (j9 s.wb (s.l.tk j).o) fv (s.l.tk j).x (s.l.tk j).e,fR ⟨(s.bf j).g,(s.bf j).o,none⟩ 1 (s.bf j).v (rK (s.bf j)) true,wF (s.T j) s.k.A j (s.l.tk j).c (s.aS j)]++(E.me D t::(R++(tX s j++E.O p)))))):=by
    refine List.Perm.cons _ (eN _ ?_);have h:=((jw s j2).append_right (E.O p)).append_left (E.me D t::R);unfold j7 at h;rw[<-FV,dU]at h;exact(List.Perm.trans (l₂:=(E.me D t::R)++(gS s++E.O p)) (.refl _) h).trans (fA ..)
   replace L:St (E.Ok p) o 25 _ _ 0 H w:=⟨L.env,L.sat.perm pe,L.sz⟩;refine TP F P m B L 18 [0,i,0,101] 26 [] [(17,aH.get (aH.mk (λj=>Addr.add (Addr.add ⟨g,0,none⟩ (j.fst*1)) j.snd) [] (λj f=>List.getD (v j) f undef) cap 1 true none) (i,0)),(13,.slice (some ⟨g,0,none⟩) (List.length ms) cap),(4,i6 i)] 35 3 [] [] [(decide ((↑i:Int)<(↑(List.length ms):Int)),true)] [((↑i:Int),List.length ms)] [(1,(i,cap))] λa1 w1 I W zS Dx o9=>?_;have Y:St (E.Ok p) o 25 [(17,(v i).getD 0 undef),(13,.slice (some ⟨g,0,none⟩) ms.length cap),(4,i6 (i:Nat))] _ 0 a1 w1:=I;rw[hv i j O]at Y;clear I;have I:=Y;clear Y;refine Rb F P m W I 3 [8,0,1,1] 1 [] [(20,aH.get (aH.mk (λd=>Addr.mk (s.T j) (4+d.snd) none) [j9 s.wb (s.l.tk j).o,fv,.bool (s.l.tk j).x,.bool (s.l.tk j).e] (λx d=>undef) 1 4 true none) (0,1)),(13,.slice (some ⟨g,0,none⟩) (List.length ms) cap),(4,i6 i)] 38 3 [] λa2 w2 S2 V tM d d=>?_;have hP:=C.pv.bg j j2;have d:(s.bl j).length<=s.l.tl:=oX ((C.ti.ch j j2).1.imp fun{a b} h=>iS h) λc b=>((C.ti.ch j j2).2 c b).2.1;refine apT t115 δ F P m 13 20 21 0 (g:=g) (len:=ms.length) (cap:=cap) (xv:=fv) (v:=v) (L:=(s.bl j).map λx=>ptr (s.T x)) ρ ρ δ rfl rfl ?_ (λu hu=>by obtain⟨x,_,rfl⟩:=gV.1 hu;rfl) rfl ⟨ω,A⟩ l θ ω S2 λg' v' c' d S h3 q1 q2 q3 b q5 hA3 c=>?_
   .rw[FV];unfold su;by_cases b:(s.bf j).s=true
    .rw[sJ b];refine .inr ⟨_,_,by rw[List.length_map],λq u hu=>?_,λ_=>⟨?_,λa f=>hP.ok b a false f⟩⟩
     .have a:q<(s.bl j).length:=by have:=(lg.1 hu).1;simpa using this
      have h9:=S2.sat.val 9 _ rfl (q,0) ⟨by show q<rK (s.bf j);unfold rK;rw[sJ b];have:=hP.len b;omega,aD⟩;have X:w2.cell? (((⟨(s.bf j).g,(s.bf j).o,none⟩:Addr).add (q*1)).add 0)=some (((s.bf j).v q).getD 0 undef):=h9;rw[hP.val q a]at X;rw[lm,Addr.add_add,jI]at X;rw[X];simp only[List.getElem?_map,mZ a,fI,Option.some.injEq]at hu;rw[<-hu,ni,mZ a];rfl
     .have:=rG C.sat (λr hr=>gF _ (aP _ (gF _ (gU _ hr)))) j2 b;grind
    .rw[af b];exact .inl ⟨rfl,by rw[(hP.nil χ).1];rfl⟩
   .have CJ:d.defers=[]:=c.trans V;rw[List.length_map]at q5 hA3;rw[show jB (pc prog 187 38 (Bo 3) [])=pc prog 187 39 [true] [] by kernel_rfl];have h4:Sat (E.Ok p) S (fR ⟨g',0,none⟩ 1 v' c' true::(pM s++(E.me D t::(R++E.P p s)))):=by
     have h5:Sat (E.Ok p) S (fR ⟨g',0,none⟩ 1 v' c' true::(pM s++([dO (s.T j) (j9 s.wb (s.l.tk j).o) fv (s.l.tk j).x (s.l.tk j).e,fR ⟨(s.bf j).g,(s.bf j).o,none⟩ 1 (s.bf j).v (rK (s.bf j)) true,wF (s.T j) s.k.A j (s.l.tk j).c (s.aS j)]++(E.me D t::(R++(tX s j++E.O p)))))):=h3;exact h5.perm (List.Perm.cons _ ((List.perm_cons _).1 pe).symm)
    have S3:St (E.Ok p) S.heap.size 25 [(21,.slice (some ⟨g',0,none⟩) (ms.length+(s.bl j).length) c'),(4,i6 (i:Nat))] _ 0 d S:=St.dB (E:=_::_::_::_::[]) ⟨hA3,h4,rfl⟩ _ rfl;have ew:wp i=((i+1:Nat):Int):=j6;generalize hB3:S.heap.size=a at*;refine Rb F P m CJ S3 9 [] 1 [] [(4,i6 (wp i)),(3,.slice (some ⟨g',0,none⟩) (List.length ms+List.length (s.bl j)) c')] 48 3 [] λd b S4 a c c c=>?_;rw[ew]at S4;have el:ms.length+(s.bl j).length=(ms++s.bl j).length:=ψ
    rw[el]at S4 q5;refine ih (i+1) (ms++s.bl j) g' c' v' d b _ ω (e.next C.ti O) (λk x Z=>?_) q5 ?_ (λQ wr z=>?_) a rfl ω ⟨(S4.dB [(4,i6 ((i+1:Nat):Int)),(3,.slice (some ⟨g',0,none⟩) (ms++s.bl j).length c')] rfl).env,S4.sat,rfl⟩
    .by_cases T:k<ms.length
     .rw[nO T]at Z;rw[q1 k T];exact hv k x Z
     .rw[vf ω]at Z;have:=q2 (k-ms.length) (ptr (s.T x)) (by rw[List.getElem?_map,Z];rfl);rw[show ms.length+(k-ms.length)=k by omega]at this;exact this
    .have:=S4.sat.blk (bI ..) (j:=(0,0)) ⟨χ,aD⟩;simpa [ey]using this
    .rcases q3 with a|a
     .exact A Q wr ω
     .exact P Q wr ω
  .exact fin i ms g cap v H w o e (by have:=e.le;omega) hv l hg A B M N L
def Yc(i:∀p,aB prog false (DX (E.Ok p)) (E.Ψ p))(d:∀p,∀(a:Addr)(wr:Bool),E.Bd p<=a.block->E.Ok p a wr):rB E D t:=by
 intro p s w R j0 c J C b f a K;have F:=i p;have k:=d p;have g:=C.sat;have c:=C.bd;refine cJ func187 g 25 λU c h p g c c o m=>aq (λM=>bR (h) [ptr (s.T j0)]::(M)) 1 F k g c o 17 [] 1 [] [(4,i6 0),(3,.slice (some ⟨h,0,none⟩) 1 1)] 17 1 [] λr m g c o o o=>X3 i d (j0:=j0) C a p K s.l.tl 0 [j0] h 1 (λ_=>[ptr (s.T j0)]) r m _ rfl ⟨ψ,ψ,λx e=>?_,λx e=>?_⟩ (λj x e=>?_) (az _) ω (λa wr z=>k a wr ω) c rfl ω ⟨g.env,Sat.part g.sat rfl rfl (Jd rfl) (λj b=>⟨(0,j.1),⟨aD,b.1⟩,?_,?_⟩),rfl⟩
 .simp at e;subst e;exact⟨az _,b,by rw[C.hk];exact f⟩
 .simp_all
 .grind
 .have l:j.2<1:=b.2;simp[ey];omega
 .have l:j.2<1:=b.2;have q:j.1<1:=b.1;let⟨a,n⟩:=j;simp only at l q;obtain rfl:a=0:=ω
  obtain rfl:n=0:=ω
  rfl
end Go.Proofs.YtobagnjnbmgidabGreatDoor
