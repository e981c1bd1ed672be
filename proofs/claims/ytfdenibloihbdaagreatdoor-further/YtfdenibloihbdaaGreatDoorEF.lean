import Derived.Test.YtfdenibloihbdaaGreatDoorM06
set_option maxRecDepth 100000
set_option maxHeartbeats 4000000
namespace Go.Proofs.YtfdenibloihbdaaGreatDoor
open Tryz hiding parts
open Go.Value renaming slice→Sl,string→Sg,iface→If,tuple→Tu,agg→Ag
open Go.Obj renaming cells→Cl
open Go.Ending renaming returned→Rt,panicked→Pk
open _root_.Option renaming some→sT,none→sV
open _root_.Bool renaming true→xA,false→xN
section
open Go.RowKit Go.Shelf
open Sc
open _root_.Nat renaming le_succ→VL
variable {S T:Sub}{f:Vl}{k:List Fr}{k0:Array Vu}{l:List Vl}{m:Mc}{n:Int}{ts:List BA}{x:Xs}{z:SubV}{α β ρ σ:Type}
section
namespace Sc
def qcc(e:Nat):Prop:=10<=e/\e<=13
structure More (S T:Sub):Prop where
 lines:T.lines=S.lines
 ticks:T.ticks=S.ticks
 draws:T.draws=S.draws
 fuel:S.fuel<=T.fuel
 rewrites:S.rewrites<=T.rewrites
 quota:S.quota<=T.quota
 room:S.room<=T.room
def LeM(m n:Mc):Prop:=m.steps<=n.steps/\m.cells<=n.cells
def LeX(x y:Xs):Prop:=x.count<=y.count
structure Od {σ:Type} (le:σ->σ->Prop):Prop where
 rf:∀m,le m m
 tr:∀{a b c},le a b->le b c->le a c
theorem odM:Od LeM:=⟨λ_=>⟨eR _,eR _⟩,λh k=>⟨eT h.1 k.1,eT h.2 k.2⟩⟩
theorem odX:Od LeX:=⟨λ_=>eR _,λh k=>eT h k⟩
def FurS{σ ρ:Type}(le:σ->σ->Prop)(inj:Nat->ρ)(m:σ)(r r':ρ×σ):Prop:=le m r'.2/\(r'=r\/∃e,r.1=inj e/\qcc e/\le r.2 r'.2)
abbrev qcf{α:Type}(m:Mc)(r r':Except Nat α×Mc):Prop:=FurS LeM .error m r r'
abbrev qcg(m:Mc)(r r':Ct×Mc):Prop:=FurS LeM .stop m r r'
abbrev qce{α:Type}(x:Xs)(r r':Except Nat α×Xs):Prop:=FurS LeX .error x r r'
theorem qb5{le:σ->σ->Prop}{inj:Nat->ρ}{m:σ}{r:ρ×σ}(h:le m r.2):FurS le inj m r r:=⟨h,.inl rfl⟩
theorem qcb{le:σ->σ->Prop}{inj:Nat->ρ}{m:σ}{a:ρ×σ}{e:Nat}(b:qcc e)(h:le m a.2):FurS le inj m (inj e,m) a:=⟨h,.inr ⟨e,rfl,b,h⟩⟩
theorem FurS.up{le:σ->σ->Prop}{inj:Nat->ρ}{m n:σ}{r r':ρ×σ}(h:FurS le inj n r r')(o:Od le)(a:le m n):FurS le inj m r r':=⟨o.tr a h.1,h.2⟩
theorem bnd{le:σ->σ->Prop}{inj:Nat->ρ}{m:σ}(o:Od le){r b:Except Nat α×σ}(h:FurS le .error m r b){F c:Except Nat α×σ->ρ×σ}(f:∀e n,F (.error e,n)=(inj e,n))(g:∀e n,c (.error e,n)=(inj e,n))(i:∀a n,FurS le inj n (F (.ok a,n)) (c (.ok a,n))):FurS le inj m (F r) (c b):=by
 obtain⟨d,rfl|⟨e,j,k,l⟩⟩:=h;rcases b with⟨e|a,n⟩;rw[f,g];exact qb5 d;exact(i a n).up o d;rcases r with⟨e1|a1,q⟩;cases j;rw[f];have:le b.2 (c b).2:=by rcases b with⟨e2|a2,p⟩;rw[g];exact o.rf _;exact(i a2 p).1
 exact⟨o.tr d this,.inr ⟨_,rfl,k,o.tr l this⟩⟩;cases j
theorem qb6{r c:Except Nat α×Mc}(h:qcf m r c){F b:Except Nat α×Mc->Except Nat β×Mc}(d:∀e n,F (.error e,n)=(.error e,n))(f:∀e n,b (.error e,n)=(.error e,n))(g:∀a n,qcf n (F (.ok a,n)) (b (.ok a,n))):qcf m (F r) (b c):=bnd odM h d f g
theorem qb9{r c:Except Nat α×Mc}(h:qcf m r c){F b:Except Nat α×Mc->Ct×Mc}(d:∀e n,F (.error e,n)=(.stop e,n))(f:∀e n,b (.error e,n)=(.stop e,n))(g:∀a n,qcg n (F (.ok a,n)) (b (.ok a,n))):qcg m (F r) (b c):=bnd odM h d f g
theorem qb8{m:Xs}{r c:Except Nat α×Xs}(h:qce m r c){F b:Except Nat α×Xs->Except Nat β×Xs}(d:∀e n,F (.error e,n)=(.error e,n))(f:∀e n,b (.error e,n)=(.error e,n))(g:∀a n,qce n (F (.ok a,n)) (b (.ok a,n))):qce m (F r) (b c):=bnd odX h d f g
theorem qak(h:More S T)(m:Mc):qcf m (step S m) (step T m):=by have b:=h.fuel;unfold step;by_cases a:(m.steps:Int)<S.fuel;rw[if_pos a,if_pos Om];exact qb5 ⟨VL _,eR _⟩;rw[if_neg a];split;exact qcb ⟨by decide,by decide⟩ ⟨VL _,eR _⟩;exact qb5 (odM.rf m)
theorem qai(h:More S T)(m:Mc):qcf m (cell S m) (cell T m):=by have b:=h.quota;unfold cell;by_cases a:(m.cells:Int)<S.quota;rw[if_pos a,if_pos Om];exact qb5 ⟨eR _,VL _⟩;rw[if_neg a];split;exact qcb ⟨by decide,by decide⟩ ⟨eR _,VL _⟩;exact qb5 (odM.rf m)
theorem qah{S T:Sub}(h:More S T):∀(n:Nat) (m:Mc),qcf m (eQ S n m) (eQ T n m)
 |0,m=>qb5 (odM.rf m)
 |n+1,m=>by have a:=qai h m;simp only[eQ];generalize cell S m=r at a|-;generalize cell T m=r' at a|-;apply qb6 a<;>intro _ b<;>first|rfl|exact qah h n b
theorem qag(m:Mc)(rest:Vl):∀(l:List Vl),LeM m (bK m l rest).2
 |[]=>odM.rf m
 |_::l=>qag m rest l
mutual
theorem qat(m:Mc):∀(d:Dt),LeM m (bW m d).2
 |.list l=>odM.tr (qa2 m l) (qag _ _ _)
 |.num _|.bool _|.str _|.sym _ _=>odM.rf m
theorem qa2(m:Mc):∀(l:List Dt),LeM m (cT m l).2
 |[]=>odM.rf m
 |d::r=>odM.tr (qat m d) (qa2 _ r)
end
theorem qav(h:More S T)(a b:Vl)(m:Mc):qcf m (equal S a b m) (equal T a b m):=by
 unfold equal;split;rename_i a b _ c d;have e:=qak h m;generalize step S m=r at e|-;generalize step T m=r' at e|-;apply qb6 e<;>intro _ n<;>first|rfl|skip
 have e:=qav h a c n;simp only[];generalize equal S a c n=r at e|-;generalize equal T a c n=r' at e|-;apply qb6 e<;>intro u n<;>first|rfl|skip
 cases u<;>first|exact qb5 (odM.rf n)|exact qav h b d n
 exact qb5 (odM.rf m)
theorem qao(h:More S T)(c:Bool)(a:Vl)(m:Mc):qcf m (bJ S c a m) (bJ T c a m):=by
 unfold bJ;split;rename_i a b;have d:=qak h m;generalize step S m=r at d|-;generalize step T m=r' at d|-;apply qb6 d<;>intro _ n<;>first|rfl|skip
 have d:qcf n (if c then cell S n else(.ok (),n)) (if c then cell T n else(.ok (),n)):=by cases c;exact qb5 (odM.rf n);exact qai h n
 simp only[];generalize (if c then cell S n else(.ok (),n))=r at d|-;generalize (if c then cell T n else(.ok (),n))=r' at d|-;apply qb6 d<;>intro _ n<;>first|rfl|skip
 have d:=qao h c b n;simp only[];generalize bJ S c b n=r at d|-;generalize bJ T c b n=r' at d|-;apply qb6 d<;>intro _ n<;>first|rfl|exact qb5 (odM.rf n)
 exact qb5 (odM.rf m);exact qb5 (odM.rf m)
theorem qas{S T:Sub}(h:More S T):∀(l:Bs) (m:Mc),qcf m (zM S l m) (zM T l m)
 |[],m=>qb5 (odM.rf m)
 |c::l,m=>by have d:=h.room;have a:=qak h m;simp only[zM];generalize step S m=r at a|-;generalize step T m=r' at a|-;(apply qb6 a<;>intro _ n<;>first|rfl|skip);simp only[];by_cases b:(n.out.length:Int)<S.room;rw[if_pos b,if_pos Om];exact(qas h l _).up odM ⟨eR _,eR _⟩;rw[if_neg b];split;exact qcb ⟨by decide,by decide⟩ (qas h l {n with out:=n.out++[c]}).1;exact qb5 (odM.rf n)
theorem qa3(h:More S T)(f:Mc->Vl×Mc)(b:∀n,LeM n (f n).2):qcf m (new S m f) (new T m f):=by have a:=qai h m;unfold new;generalize cell S m=r at a|-;generalize cell T m=r' at a|-;apply qb6 a<;>intro _ n<;>first|rfl|exact qb5 (b n)
theorem qbr{S T:Sub}(h:More S T)(m:Mc)(p:Pm)(l:List Vl):qcf m (aI S m p l) (aI T m p l):=by
 unfold aI;split<;>first|exact qb5 (odM.rf m)|exact qa3 h _ λn=>odM.rf n|skip
 rename_i a b;have c:=qav h a b m;generalize equal S a b m=r at c|-;generalize equal T a b m=r' at c|-;apply qb6 c<;>intro u n<;>first|rfl|exact qb5 (odM.rf n)
 have c:=qah h l.length m;generalize eQ S l.length m=r at c|-;generalize eQ T l.length m=r' at c|-;apply qb6 c<;>intro u n<;>first|rfl|exact qb5 (qag n _ _)
 rename_i a;have c:=qao h xN a m;generalize bJ S xN a m=r at c|-;generalize bJ T xN a m=r' at c|-;apply qb6 c<;>intro u n<;>first|rfl|exact qb5 (odM.rf n)
 rename_i a b;have c:=qao h xA a m;generalize bJ S xA a m=r at c|-;generalize bJ T xA a m=r' at c|-;apply qb6 c<;>intro u n<;>first|rfl|exact qb5 (qag n _ _)
 split;exact qa3 h _ λn=>odM.rf n;exact qb5 (odM.rf m);rename_i g v;have c:=qas h (wr v) m;generalize zM S (wr v) m=r at c|-;generalize zM T (wr v) m=r' at c|-;apply qb6 c<;>intro u n<;>first|rfl|exact qb5 (odM.rf n)
 rw[h.lines];split;exact qb5 (odM.rf m);have c:=qai h m;generalize cell S m=r at c|-;generalize cell T m=r' at c|-;apply qb6 c<;>intro u n<;>first|rfl|exact qb5 (odM.rf n)
 rw[h.ticks];split<;>exact qb5 (odM.rf m);rw[h.draws];split;exact qb5 (odM.rf m);refine qb5 ?_;show LeM m (lH (if m.draws<S.draws.length then {m with draws:=m.draws+1}else m) _ _ _);split<;>exact odM.rf m;rename_i g i d;have c:=qah h (aH d) m;generalize eQ S (aH d) m=r at c|-;generalize eQ T (aH d) m=r' at c|-;apply qb6 c<;>intro u n<;>first|rfl|exact qb5 (qat n d)
theorem qaf(h:More S T):qcg m (bT S f l k m) (bT T f l k m):=by
 have a:=qak h m;unfold bT;generalize step S m=r at a|-;generalize step T m=r' at a|-;apply qb9 a<;>intro u n<;>first|rfl|skip
 simp only[];split<;>exact qb5 (odM.rf n)
theorem qa4{to:List Wn}{v:Vl}(h:More S T):qcg m (rewind.enter S to v k m) (rewind.enter T to v k m):=by unfold rewind.enter;split;exact qb5 (odM.rf m);split;exact qaf h;exact qb5 (odM.rf m)
theorem qar{to:List Wn}{v:Vl}(h:More S T):qcg m (rewind S to v k m) (rewind T to v k m):=by unfold rewind;split;split;exact qa4 h;exact(qaf h).up odM (odM.rf m);exact qa4 h
theorem qbx(h:More S T):qcg m (aW S f l k m) (aW T f l k m):=by
 unfold aW;split;rename_i n _ _ _;split;have a:=qah h (1+l.length) m;generalize eQ S (1+l.length) m=r at a|-;generalize eQ T (1+l.length) m=r' at a|-;apply qb9 a<;>intro u n<;>first|rfl|exact qb5 (qag n .nil l)
 split;exact qb5 (odM.rf m);have a:=qah h n m;generalize eQ S n m=r at a|-;generalize eQ T n m=r' at a|-;apply qb9 a<;>intro u n<;>first|rfl|exact qb5 (odM.rf n)
 split;exact qar h;exact qb5 (odM.rf m);rename_i p;split;exact qb5 (odM.rf m);split;exact qb5 (odM.rf m);split;exact qb5 (odM.rf m);split;rename_i x _ _ _;have a:=qao h xN x m;generalize bJ S xN x m=r at a|-;generalize bJ T xN x m=r' at a|-;apply qb9 a<;>intro u n<;>first|rfl|exact qaf h
 have a:=qai h m;generalize cell S m=r at a|-;generalize cell T m=r' at a|-;apply qb9 a<;>intro u n<;>first|rfl|exact(qaf h).up odM (odM.rf n)
 exact qaf h;have a:=qbr h m p l;generalize aI S m p l=r at a|-;generalize aI T m p l=r' at a|-;apply qb9 a<;>intro u n<;>first|rfl|exact qb5 (odM.rf n)
 exact qb5 (odM.rf m)
theorem qbv{S T:Sub}(h:More S T)(c:Ct)(m:Mc):qcg m (next S c m) (next T c m):=by
 unfold next;split<;>first|exact qb5 (odM.rf m)|exact qbx h|exact qar h|exact(qar h).up odM (odM.rf m)|exact(qaf h).up odM (odM.rf m)|skip
 refine qb5 ?_;split;unfold lS;split<;>exact odM.rf m;exact odM.rf m;split<;>exact odM.rf m;split;exact qaf h;exact qb5 (odM.rf m);have a:=qak h m;generalize step S m=r at a|-;generalize step T m=r' at a|-;apply qb9 a<;>intro u n<;>first|rfl|skip
 simp only[];split<;>first|exact qb5 (odM.rf n)|skip
 rename_i d _;have a:=qah h (aH d) n;generalize eQ S (aH d) n=r at a|-;generalize eQ T (aH d) n=r' at a|-;apply qb9 a<;>intro u n<;>first|rfl|exact qb5 (qat n d)
 refine qb5 ?_;split<;>exact odM.rf n;have a:=qai h n;generalize cell S n=r at a|-;generalize cell T n=r' at a|-;apply qb9 a<;>intro u n<;>first|rfl|exact qb5 (odM.rf n)
theorem qau{S T:Sub}(h:More S T):∀(n:Nat) (c:Ct) (m:Mc),qcg m (go S n c m) (go T n c m)
 |0,c,m=>qb5 (odM.rf m)
 |n+1,c,m=>by
  rw[CS,CS];obtain⟨a,b|⟨e,d,f,g⟩⟩:=qbv h c m
  ·rw[b]at a|-;exact(qau h n _ _).up odM a
  ·have:=(qau h n (next T c m).1 (next T c m).2).1;rw[d,vA];exact⟨odM.tr a this,.inr ⟨e,rfl,f,odM.tr g this⟩⟩
theorem qbs(U:Sub)(x:Xs)(mc:Macro)(a:List Dt)(sc:aF):(∀d y z,eI U x mc a sc=(.ok (d,y),z)->LeX x y)/\∀e z,eI U x mc a sc=(.error e,z)->LeX x z:=by unfold eI;simp only[];(repeat' split)<;>refine⟨λ_ _ _ h=>?_,λ_ _ h=>?_⟩<;>cases h<;>first|exact eR _|exact VL _
theorem qaz(h:More S T){mc:Macro}{a:List Dt}{sc:aF}{F b:Except Nat (Dt×Xs)×Xs->Except Nat α×Xs}(c:∀e n,F (.error e,n)=(.error e,n))(f:∀e n,b (.error e,n)=(.error e,n))(g:∀d y z,qce y (F (.ok (d,y),z)) (b (.ok (d,y),z))){u v:Except Nat (Dt×Xs)×Xs}(i:eI S x mc a sc=u)(j:eI T x mc a sc=v):qce x (F u) (b v):=by
 have m:=h.rewrites;have l:=qbs T x mc a sc;rw[j]at l;have k:LeX x (b v).2:=by rcases v with⟨e|⟨d,y⟩,z⟩;rw[f];exact l.2 _ _ rfl;exact odX.tr (l.1 _ _ _ rfl) (g d y z).1
 by_cases q:S.rewrites<=(x.count:Int);have:eI S x mc a sc=(.error 12,x):=by unfold eI;rw[if_pos q]
 rw[<-i,this,c];exact qcb ⟨by decide,by decide⟩ k;have:eI S x mc a sc=eI T x mc a sc:=by unfold eI;rw[if_neg q,if_neg Om]
 rw[<-i,this,j];rcases v with⟨e|⟨d,y⟩,z⟩;rw[c,f];exact qb5 (l.2 _ _ rfl);exact(g d y z).up odX (l.1 _ _ _ rfl)
def qby(S T:Sub)(f:Nat):Prop:=
 (∀x sc d,qce x (form S f x sc d) (form T f x sc d))/\
 (∀x sc l,qce x (app S f x sc l) (app T f x sc l))/\
 (∀x sc l,qce x (bG S f x sc l) (bG T f x sc l))/\
 (∀x sc p l,qce x (cK S f x sc p l) (cK T f x sc p l))/\
 (∀x sc k l,qce x (bP S f x sc k l) (bP T f x sc k l))
theorem qaw{S T:Sub}(h:More S T):∀f,qby S T f
 |0=>⟨λx _ _=>qb5 (odX.rf x),λx _ _=>qb5 (odX.rf x),λx _ _=>qb5 (odX.rf x),λx _ _ _=>qb5 (odX.rf x),λx _ _ _=>qb5 (odX.rf x)⟩
 |f+1=>by obtain⟨i,j,e,m,o⟩:=qaw h f;refine⟨λx sc d=>?_,λx sc l=>?_,λx sc l=>?_,λx sc p l=>?_,λx sc k l=>?_⟩;unfold form;(split<;>first|exact qb5 (odX.rf x)|exact j x sc _|skip);split;exact j x sc _;generalize s:eI S _ _ _ _=u;generalize t:eI T _ _ _ _=v;(apply qaz h _ _ _ s t<;>first|(intro _ _;rfl)|exact λd y _=>i y sc d);exact o x sc _ _;unfold app;have g:=e x sc l;generalize bG S f x sc l=r at g|-;generalize bG T f x sc l=r' at g|-;(apply qb8 g<;>intro u n<;>first|rfl|(cases u<;>exact qb5 (odX.rf n)));(cases l with|nil=>exact qb5 (odX.rf x)|cons d l=>have g:=i x sc d;unfold bG;generalize form S f x sc d=r at g|-;generalize form T f x sc d=r' at g|-;(apply qb8 g<;>intro u n<;>first|rfl|skip);have g:=e n sc l;simp only[];generalize bG S f n sc l=r at g|-;generalize bG T f n sc l=r' at g|-;apply qb8 g<;>intro u n<;>first|rfl|exact qb5 (odX.rf n));unfold cK;simp only[];split;exact qb5 (odX.rf x);rename_i q _ _;have g:=e x (q::sc) l;generalize bG S f x (q::sc) l=r at g|-;generalize bG T f x (q::sc) l=r' at g|-;(apply qb8 g<;>intro u n<;>first|rfl|exact qb5 (odX.rf n));unfold bP;(split<;>first|exact qb5 (odX.rf x)|exact m x sc _ _|skip);rename_i a b;have g:=e x sc [a,b];generalize bG S f x sc [a,b]=r at g|-;generalize bG T f x sc [a,b]=r' at g|-;(apply qb8 g<;>intro u n<;>first|rfl|(rcases u with _|⟨_,_|⟨_,_|⟨_,_|_⟩⟩⟩<;>exact qb5 (odX.rf n)));rename_i a b c;have g:=e x sc [a,b,c];generalize bG S f x sc [a,b,c]=r at g|-;generalize bG T f x sc [a,b,c]=r' at g|-;(apply qb8 g<;>intro u n<;>first|rfl|(rcases u with _|⟨_,_|⟨_,_|⟨_,_|_⟩⟩⟩<;>exact qb5 (odX.rf n)));rename_i b l;have g:=e x sc (b::l);generalize bG S f x sc (b::l)=r at g|-;generalize bG T f x sc (b::l)=r' at g|-;(apply qb8 g<;>intro u n<;>first|rfl|(rcases u with _|⟨_,_|⟨_,_|⟨_,_|_⟩⟩⟩<;>exact qb5 (odX.rf n)));rename_i v a;split;exact qb5 (odX.rf x);have g:=i x sc a;generalize form S f x sc a=r at g|-;generalize form T f x sc a=r' at g|-;(apply qb8 g<;>intro u n<;>first|rfl|exact qb5 (odX.rf n));rename_i b l;split;exact qb5 (odX.rf x);rename_i ns vs _;have g:=m x sc (.list ns) (b::l);generalize cK S f x sc (.list ns) (b::l)=r at g|-;generalize cK T f x sc (.list ns) (b::l)=r' at g|-;(apply qb8 g<;>intro u n<;>first|rfl|skip);have g:=e n sc vs;simp only[];generalize bG S f n sc vs=r at g|-;generalize bG T f n sc vs=r' at g|-;apply qb8 g<;>intro u n<;>first|rfl|exact qb5 (odX.rf n)
theorem qbw{f:Nat}{l:List Dt}(h:More S T):qce x (dK S f x l) (dK T f x l):=by
 obtain⟨c,_,_,e,_⟩:=qaw h f;unfold dK;split;rename_i t _ a;split;exact qb5 (odX.rf x);have d:qce x _ _:=c (x.drop t) [] a;generalize form S f (x.drop t) [] a=r at d|-;generalize form T f (x.drop t) [] a=r' at d|-;apply qb8 d<;>intro u n<;>first|rfl|exact qb5 (odX.rf n)
 rename_i t _ g b l;split;exact qb5 (odX.rf x);have d:qce x _ _:=e (x.drop t) [] (.list g) (b::l);generalize cK S f (x.drop t) [] (.list g) (b::l)=r at d|-;generalize cK T f (x.drop t) [] (.list g) (b::l)=r' at d|-;apply qb8 d<;>intro u n<;>first|rfl|exact qb5 (odX.rf n)
 exact qb5 (odX.rf x)
theorem qa0{S T:Sub}(h:More S T):∀(f:Nat) (x:Xs) (d:Dt),qce x (top S f x d) (top T f x d)
 |0,x,d=>qb5 (odX.rf x)
 |f+1,x,d=>by have a:=(qaw h (f+1)).1 x [] d;unfold top;split;split;exact qbw h;refine qb5 ?_;unfold fS;(repeat' split)<;>exact odX.rf x;generalize b:eI S _ _ _ _=u;generalize c:eI T _ _ _ _=v;(apply qaz h _ _ _ b c<;>first|(intro _ _;rfl)|exact λd y _=>qa0 h f y d);exact a;exact a
def qch(x:Xs)(m:Mc)(r r':(Option Nat×Nat)×Option Vl×Xs×Mc):Prop:=LeM m r'.2.2.2/\LeX x r'.2.2.1/\(r'=r\/∃e,r.1.1=sT e/\qcc e/\LeM r.2.2.2 r'.2.2.2/\LeX r.2.2.1 r'.2.2.1)
theorem qa5{S T:Sub}(h:More S T):∀(fs:List (Dt×Nat)) (v:Option Vl) (x:Xs) (m:Mc),qch x m (dV S fs v x m) (dV T fs v x m)
 |[],v,x,m=>⟨odM.rf m,odX.rf x,.inl rfl⟩
 |(d,p)::fs,v,x,m=>by have g:=qa5 h fs;obtain⟨i,q⟩:=qa0 h fV x d;simp only[dV];generalize top S fV x d=a at q|-;generalize top T fV x d=b at i q|-;(have f:∀(e:Ex) (y:Xs),qch y m (match go S fV (.ev e .none []) m with|(.done v,m)=>dV S fs (sT v) y m|(.stop e,m)=>((sT e,p),v,y,m)|(_,m)=>((sT 0,p),v,y,m)) (match go T fV (.ev e .none []) m with|(.done v,m)=>dV T fs (sT v) y m|(.stop e,m)=>((sT e,p),v,y,m)|(_,m)=>((sT 0,p),v,y,m)):=by intro e y;obtain⟨j,r⟩:=qau h fV (.ev e .none []) m;generalize go S fV (.ev e .none []) m=c at r|-;generalize go T fV (.ev e .none []) m=c' at j r|-;obtain rfl|⟨k,s,l,o⟩:=r;rcases c' with⟨c',n⟩;(cases c' with|done u=>exact⟨odM.tr j (g _ _ _).1,(g _ _ _).2⟩|_=>exact⟨j,odX.rf y,.inl rfl⟩);rcases c with⟨c,n⟩;cases (show c=_ from s);rcases c' with⟨c',t⟩;cases c' with|done u=>exact⟨odM.tr j (g _ _ _).1,(g _ _ _).2.1,.inr ⟨k,rfl,l,odM.tr o (g _ _ _).1,(g _ _ _).2.1⟩⟩|_=>exact⟨j,odX.rf y,.inr ⟨k,rfl,l,o,odX.rf y⟩⟩);obtain rfl|⟨k,s,l,o⟩:=q;rcases b with⟨e|e,y⟩;exact⟨odM.rf m,i,.inl rfl⟩;exact⟨(f e y).1,odX.tr i (f e y).2.1,(f e y).2.2⟩;rcases a with⟨c,n⟩;cases (show c=_ from s);rcases b with⟨e|e,y⟩;exact⟨odM.rf m,i,.inr ⟨k,rfl,l,odM.rf m,o⟩⟩;exact⟨(f e y).1,odX.tr i (f e y).2.1,.inr ⟨k,rfl,l,(f e y).1,odX.tr o (f e y).2.1⟩⟩
end Sc
end
def Mo(n k most:Int):Prop:=dG n most=xN/\k=n\/dG n most=xA/\n<=k/\k<=most
theorem Mo.w{k most:Int}(h:Mo n k most):dG k most=dG n most:=by rcases h with⟨_,rfl⟩|⟨h,a,b⟩;rfl;rw[h];simp[dG]at h|-;omega
theorem Mo.le{k most:Int}(h:Mo n k most):n<=k:=by rcases h with⟨_,rfl⟩|⟨_,h,_⟩;exact Int.le_refl _;exact h
def SubV.to(z:SubV)(f r q m:Int):SubV:=⟨z.t,z.sa,z.sn,z.sc,z.li,z.ti,z.dr,z.g,f,r,q,m⟩
def Lim(x y:Rp):Prop:=10<=x.ve/\x.ve<=13/\x.st<=y.st/\x.ce<=y.ce/\x.rw<=y.rw
theorem qa1(r:(Option Nat×Nat)×Option Vl×Xs×Mc):(oF r).st=r.2.2.2.steps/\(oF r).ce=r.2.2.2.cells/\(oF r).rw=r.2.2.1.count:=by rcases r with⟨⟨_|e,p⟩,v,x,m⟩<;>exact⟨rfl,rfl,rfl⟩
theorem qbz{f r q m:Int}(n:Mo z.f f 20000)(o:Mo z.r r 500)(h:Mo z.q q 5000)(d:Mo z.m m 2000):fB (dQ (z.to f r q m)) (z.to f r q m) ts=fB (dQ z) z ts\/Lim (fB (dQ z) z ts) (fB (dQ (z.to f r q m)) (z.to f r q m) ts):=by
 have y:More (dQ z) (dQ (z.to f r q m)):=⟨rfl,rfl,rfl,n.le,o.le,h.le,d.le⟩;have s:=h.le;unfold fB;rw[show eX (z.to f r q m).sn (z.to f r q m).g (z.to f r q m).f (z.to f r q m).r (z.to f r q m).q (z.to f r q m).m=eX z.sn z.g z.f z.r z.q z.m by unfold eX SubV.to;rw[n.w,o.w,h.w,d.w],show(z.to f r q m).t=z.t from rfl,show(z.to f r q m).g=z.g from rfl,show(z.to f r q m).q=q from rfl];have i:=qa5 y (gS z.t) sV {} (jD z.g (ts.filterMap bI));generalize dV (dQ (z.to f r q m)) (gS z.t) sV {} (jD z.g (ts.filterMap bI))=b at i|-;generalize dV (dQ z) (gS z.t) sV {} (jD z.g (ts.filterMap bI))=a at i|-;obtain⟨A,I,B⟩:=i;have C:2*(ts.filterMap bI).length<=b.2.2.2.cells:=eT (by simp[iQ]) (eT (qag _ _ _).2 A.2);generalize (ts.filterMap bI).length=k at C|-;obtain⟨t1,D,E⟩:=qa1 b;split;generalize gA z.t=u;rcases u with _|⟨c,j⟩;by_cases l:((2*k:Nat):Int)<=z.q;simp only[if_pos l,if_pos (Int.le_trans l s)];rcases B with rfl|⟨e,F,d,G,H⟩;exact .inl rfl;obtain⟨s1,J,K⟩:=qa1 a;have L:(oF a).ve=e:=by rcases a with⟨⟨_|e,p⟩,v,x,m⟩<;>cases F;rfl
 obtain⟨M,N⟩:=G;unfold LeX at H;obtain⟨e1,e2⟩:=d;exact .inr ⟨by omega,by omega,by omega,by omega,by omega⟩;simp only[if_neg l];refine .inr ⟨show(10:Int)<=11 by decide,show(11:Int)<=13 by decide,?_⟩;split;simp only[t1,D,E];exact⟨by omega,by omega,by omega⟩;exact⟨Int.le_refl _,s,Int.le_refl _⟩;exact .inl rfl;exact .inl rfl
theorem qb3{c:Int}(a:0<n):0<=pk c n/\pk c n<n:=by
 unfold pk;have b:0<=(if c<0 then-(c+1)else c):=by split<;>omega
 exact⟨Int.tmod_nonneg _ b,Int.tmod_lt_of_pos _ a⟩
def I64(c:Int):Prop:=-9223372036854775808<=c/\c<=9223372036854775807
theorem qb4(c n:Int)(w:Wd)(b:I64 c)(g:0<n/\n<=30000):Cp 9 #[Ii c,Ii n] w λe w'=>e=Rt (Ii (pk c n))/\Lk w w':=by
 unfold I64 at b;have d:(n==0)=xN:=So;have a:pk c n=Int.tmod (if c<0 then-(c+1)else c) n:=rfl;by_cases h:c<0;all_goals simp only[h,if_true,if_false]at a
 all_goals have f:=hZ a;clear a;delta Cp;go_in;go_wp2;(all_goals go_ret);(all_goals refine⟨?_,rfl,rfl,rfl,rfl⟩);all_goals (rw[f.o];first|rfl|(rw[Int.neg_tmod];rfl)|(rw[Int.tmod_eq_emod_of_nonneg h];rfl))
theorem qb2{c:Prop}(h:c:=by
  go_enter func6,ntmps6
  go_wp2;go_ret;exact⟨⟨n,rfl,.inl ⟨by simp[dG];omega,rfl⟩⟩,rfl,rfl,rfl,rfl⟩):c:=h
theorem qb0(n c most:Int)(w:Wd)(a:I64 c)(g:0<=most/\most<=20000):Cp 6 #[Ii n,Ii c,Ii most] w λe w'=>(∃k,e=Rt (Ii k)/\Mo n k most)/\Lk w w':=by by_cases h:n<0;exact qb2;by_cases i:most<n;exact qb2;have d:=hZ (λw=>qb4 c (most-n+1) w a Om);have j:=qb3 (c:=c) (n:=most-n+1) Om;clear a;delta Cp;go_in;go_wp2_with (go_at_call 9;refine iF (d.o _) λl b=>?_;have f:=hZ b;clear b);go_ret;exact⟨⟨n+pk c (most-n+1),rfl,.inr ⟨by simp[dG];omega,by omega,by omega⟩⟩,f.o⟩
structure FurW (w:Wd) (t:Nat) (cs ct:Array Vu) (v:Wd):Prop where
 bl:Below w.heap.size w v
 os:v.heap[w.heap.size]? =sT (Cl cs 25)
 ot:v.heap[t]? =sT (Cl ct 25)
 lt:w.heap.size<t
theorem FurW.lk{w v v':Wd}{t:Nat}{cs:Array Vu}(h:FurW w t cs k0 v)(a:Lk v v'):FurW w t cs k0 v':=⟨h.bl.t (dW a h.bl.size),by rw[a.heap];exact h.os,by rw[a.heap];exact h.ot,h.lt⟩
theorem FurW.put{w v:Wd}{t:Nat}{cs:Array Vu}(h:FurW w t cs k0 v)(k:Nat)(x:Vu):FurW w t cs (k0.setIfInBounds k x) (v.setCell (Ab t k) x):=by have:=h.lt;exact⟨fH h.bl Om,by rw[aG _ (by show w.heap.size≠t;omega)];exact h.os,fN h.ot,h.lt⟩
theorem FurW.fr{w v:Wd}{t:Nat}{cs:Array Vu}(h:FurW w t cs k0 v):(∀o,v.frozen? (Ab t o)=xN)/\w.heap.size<t:=⟨λo=>by simp[World.frozen?,h.ot],h.lt⟩
theorem qb1{c:Prop}(h:c:=by
  cases h;clear AL;refine hZ ?_;go_wp2_with (go_at_call 8;refine(S.o _).mo ?_;rintro e w8 ⟨rfl,hb⟩;have HC:=hZ hb;clear hb)
  go_ret;exact⟨rfl,(HB.o.alloc HB.o.size _).t (HC.o.mo So)⟩):c:=h
theorem further3{w:Wd}(ok:OkW w)(h:SubAt z ts w){A C D id:Int}{d i j:OA}{k lc l o p s:Nat}(a0:z.li=Sl d k lc)(a1:z.ti=Sl i l o)(a2:z.dr=Sl j p s)(ha:I64 A)(hb:I64 C)(hc:I64 D)(hd:I64 id):Cp 3 #[Ag z.c,Ii A,Ii C,Ii D,Ii id] w λe w'=>e=Rt (.bool xA)/\Bt w w':=by
 obtain⟨t,sa,u,sc,li,ti,dr,g,B,y,x,v⟩:=z;cases a0;cases a1;cases a2;have K:Hid (∀f r q m w',Bt w w'->Cp 7 #[Ag #[Sg t,Sl sa u sc,Sl d k lc,Sl i l o,Sl j p s,Ii g,Ii f,Ii r,Ii q,Ii m]] w' λe w2=>e=Rt (Tu #[Ag (fB (dQ ⟨t,sa,u,sc,Sl d k lc,Sl i l o,Sl j p s,g,f,r,q,m⟩) ⟨t,sa,u,sc,Sl d k lc,Sl i l o,Sl j p s,g,f,r,q,m⟩ ts).c,.bool xA])/\Bt w' w2):=λf r q m w' hb=>uM (ok.below hb) ⟨h.n,(h.below hb).at'⟩;obtain⟨E,W,Ma,Mb,Mc,Md⟩:=gT (λf r q m=>qbz (z:=⟨t,sa,u,sc,Sl d k lc,Sl i l o,Sl j p s,g,B,y,x,v⟩) (ts:=ts) (f:=f) (r:=r) (q:=q) (m:=m)) (λw' (hb:Bt w w')=>xQ w' (ok.below hb)) (λw=>qb0 B A 20000 w ha De) (λw=>qb0 y C 500 w hb De) (λw=>qb0 x D 5000 w hc De) (λw=>qb0 v id 2000 w hd De);clear ok h ha hb hc hd;show Cp 3 #[Ag #[Sg t,Sl sa u sc,Sl d k lc,Sl i l o,Sl j p s,Ii g,Ii B,Ii y,Ii x,Ii v],Ii A,Ii C,Ii D,Ii id] w _;delta Cp;go_in;go_wp2_with (go_at_call 5;refine iF (W.o _ (aA _ _)) λw1 hb=>?_;refine hO ?_);have hs:=(hb.block w.heap.size Sm).t (eN _ _);obtain⟨c0,c1,c2,c3,c4,c5,c6,c7,c8,c9⟩:=lJ hs;have hz:w.heap.size<w1.heap.size:=by have:=hb.size;simp at this;omega
 have a:Hid (FurW w w1.heap.size #[Sg t,Sl sa u sc,Sl d k lc,Sl i l o,Sl j p s,Ii g,Ii B,Ii y,Ii x,Ii v] #[Sg t,Sl sa u sc,Sl d k lc,Sl i l o,Sl j p s,Ii g,Ii B,Ii y,Ii x,Ii v] (w1.alloc (Cl #[Sg t,Sl sa u sc,Sl d k lc,Sl i l o,Sl j p s,Ii g,Ii B,Ii y,Ii x,Ii v] 25))):=⟨((aA w _).t (hb.mo Sm)).alloc Om _,by rw[eH _ _ _ hz];exact hs,eN _ _,hz⟩;clear hb hs;refine hZ ?_;go_wp2_with (go_at_call 6;refine(Ma.o _).mo ?_;rintro e w2 ⟨⟨f,rfl,hf⟩,F⟩;refine hO ?_);replace a:=hZ (a.o.lk F);clear F hz c0 c1 c2 c3 c4 c5 c6 c7 c8 c9;have HA:=hZ (E.o f);generalize w1.heap.size=b at a|-;obtain⟨-,-,-,-,-,-,-,c7,-,-⟩:=lJ a.o.os;obtain⟨G,b1,H,I,J,L,M,N,O,P⟩:=lJ a.o.ot;obtain⟨fr,lt⟩:=a.o.fr;have Hf:=hZ hf;clear hf E;refine hZ ?_;go_wp2_with (go_at_call 6;refine(Mb.o _).mo ?_;rintro e w3 ⟨⟨r,rfl,hr⟩,F⟩;refine hO ?_);replace a:Hid (FurW w b #[Sg t,Sl sa u sc,Sl d k lc,Sl i l o,Sl j p s,Ii g,Ii B,Ii y,Ii x,Ii v] #[Sg t,Sl sa u sc,Sl d k lc,Sl i l o,Sl j p s,Ii g,Ii f,Ii y,Ii x,Ii v] w3):=(a.o.put 6 (Ii f)).lk F;have Hr:=hZ hr;clear F hr c7 G b1 H I J L M N O P fr lt;obtain⟨-,-,-,-,-,-,-,-,c8,-⟩:=lJ a.o.os;obtain⟨G,b1,H,I,J,L,M,N,O,P⟩:=lJ a.o.ot;obtain⟨fr,lt⟩:=a.o.fr;refine hZ ?_;go_wp2_with (go_at_call 6;refine(Mc.o _).mo ?_;rintro e w4 ⟨⟨q,rfl,hq⟩,F⟩;refine hO ?_);replace a:Hid (FurW w b #[Sg t,Sl sa u sc,Sl d k lc,Sl i l o,Sl j p s,Ii g,Ii B,Ii y,Ii x,Ii v] #[Sg t,Sl sa u sc,Sl d k lc,Sl i l o,Sl j p s,Ii g,Ii f,Ii r,Ii x,Ii v] w4):=(a.o.put 7 (Ii r)).lk F;have Hq:=hZ hq;clear F hq c8 G b1 H I J L M N O P fr lt;obtain⟨-,-,-,-,-,-,-,-,-,c9⟩:=lJ a.o.os;obtain⟨G,b1,H,I,J,L,M,N,O,P⟩:=lJ a.o.ot;obtain⟨fr,lt⟩:=a.o.fr;refine hZ ?_;go_wp2_with (go_at_call 6;refine(Md.o _).mo ?_;rintro e w5 ⟨⟨m,rfl,hm⟩,F⟩;refine hO ?_);replace a:Hid (FurW w b #[Sg t,Sl sa u sc,Sl d k lc,Sl i l o,Sl j p s,Ii g,Ii B,Ii y,Ii x,Ii v] #[Sg t,Sl sa u sc,Sl d k lc,Sl i l o,Sl j p s,Ii g,Ii f,Ii r,Ii q,Ii v] w5):=(a.o.put 8 (Ii q)).lk F;have Hm:=hZ hm;clear F hm c9 G b1 H I J L M N O P fr lt;obtain⟨c0,c1,c2,c3,c4,c5,c6,c7,c8,c9⟩:=lJ a.o.os;obtain⟨G,b1,H,I,J,L,M,N,O,P⟩:=lJ a.o.ot;obtain⟨fr,lt⟩:=a.o.fr;have AL:Hid (_\/_):=HA.o r q m Hf.o Hr.o Hq.o Hm.o;obtain⟨KX,KY⟩:=aN (K.o B y x v) (K.o f r q m);clear HA K Hf Hr Hq Hm Ma Mb Mc Md W;unfold SubV.to at AL;simp only at AL;generalize fB (dQ ⟨t,sa,u,sc,Sl d k lc,Sl i l o,Sl j p s,g,B,y,x,v⟩) ⟨t,sa,u,sc,Sl d k lc,Sl i l o,Sl j p s,g,B,y,x,v⟩ ts=X at KX AL;generalize fB (dQ ⟨t,sa,u,sc,Sl d k lc,Sl i l o,Sl j p s,g,f,r,q,m⟩) ⟨t,sa,u,sc,Sl d k lc,Sl i l o,Sl j p s,g,f,r,q,m⟩ ts=Y at KY AL;obtain⟨x0,x1,x2,x3,x4,x5,x6⟩:=X;obtain⟨y0,y1,y2,y3,y4,y5,y6⟩:=Y;replace KX:Hid (∀w',Bt w w'->Cp 7 #[Ag #[Sg t,Sl sa u sc,Sl d k lc,Sl i l o,Sl j p s,Ii g,Ii B,Ii y,Ii x,Ii v]] w' λe w2=>e=Rt (Tu #[Ag #[Ii x0,Ii x1,Ii x2,Sg x3,Sg ⟨#[]⟩,Ii x4,Ii x5,Ii x6,Sl sV 0 0],.bool xA])/\Bt w' w2):=KX;replace KY:Hid (∀w',Bt w w'->Cp 7 #[Ag #[Sg t,Sl sa u sc,Sl d k lc,Sl i l o,Sl j p s,Ii g,Ii f,Ii r,Ii q,Ii m]] w' λe w2=>e=Rt (Tu #[Ag #[Ii y0,Ii y1,Ii y2,Sg y3,Sg ⟨#[]⟩,Ii y4,Ii y5,Ii y6,Sl sV 0 0],.bool xA])/\Bt w' w2):=KY;have lb:b<w5.heap.size:=(eE.1 a.o.ot).1;replace a:Hid (FurW w b #[Sg t,Sl sa u sc,Sl d k lc,Sl i l o,Sl j p s,Ii g,Ii B,Ii y,Ii x,Ii v] #[Sg t,Sl sa u sc,Sl d k lc,Sl i l o,Sl j p s,Ii g,Ii f,Ii r,Ii q,Ii m] (w5.setCell (Ab b 9) (Ii m))):=a.o.put 9 (Ii m);refine hZ ?_;go_wp2_with (go_at_call 7;refine iF (KX.o _ a.o.bl) λZ hb=>?_;refine hO ?_);have hz:w5.heap.size<=Z.heap.size:=by have:=hb.size;rw[aL]at this;exact this
 obtain⟨Q,R,T,U,V,d5,d6,d7,d8,d9⟩:=lJ ((hb.block b (by rw[aL];exact lb)).t a.o.ot);have ll:=a.o.lt;have lw:b<Z.heap.size:=Om;have a3:w.heap.size<Z.heap.size:=Om;have HB:=hZ ((a.o.bl.t (hb.mo (by rw[aL];omega))).alloc Om (Cl #[Ii x0,Ii x1,Ii x2,Sg x3,Sg ⟨#[]⟩,Ii x4,Ii x5,Ii x6,Sl sV 0 0] 31));clear hb hz lb ll a c0 c1 c2 c3 c4 c5 c6 c7 c8 c9 G b1 H I J L M N O P fr lt;refine hZ ?_;go_wp2_with (go_at_call 7;refine iF (KY.o _ HB.o) λw7 hb=>?_;refine hO ?_);obtain⟨e0,e1,e2,e3,e4,e5,e6,e7,e8,-⟩:=c9 ((hb.block Z.heap.size Sm).t (eN Z _));have lx:Z.heap.size<w7.heap.size:=by have:=hb.size;simp at this;omega
 replace HB:=hZ (HB.o.t (hb.mo So));clear hb Q R T U V d5 d6 d7 d8 d9 lw KX KY;have S:=hZ (Oo ⟨x0,x1,x2,x3,x4,x5,x6⟩);by_cases h1:10<=x0;·by_cases h2:x0<=13;(·(have q:x4<=y4/\x5<=y5/\x6<=y6:=by rcases AL.o with h|⟨_,_,h⟩;cases h;exact⟨Int.le_refl _,Int.le_refl _,Int.le_refl _⟩;exact h);obtain⟨q1,q2,q3⟩:=q;refine hZ ?_;go_wp2;go_ret;exact⟨rfl,HB.o.alloc HB.o.size _⟩);rcases AL.o with h|⟨_,h,_⟩;exact qb1;exact absurd h h2
 rcases AL.o with h|⟨h,_⟩;exact qb1;exact absurd h h1
end
end Go.Proofs.YtfdenibloihbdaaGreatDoor
