import Derived.Test.YtldaocpojcfljaaGreatDoorM01
import Derived.Deep.RegionWith
import Derived.Deep.AppendLies
import Derived.Lib.Hide
import Derived.Shelf.Abstract
import Derived.StillTailTactics
import Derived.Deep.RegionHeld3
set_option maxRecDepth 100000
set_option maxHeartbeats 4000000
namespace Go.Proofs.YtldaocpojcfljaaGreatDoor
open Tryz hiding parts
open Sc
variable {S:Sub}{W w w':Wd}{b g lo m n o p:Nat}{mo t:Int}{rr:List UInt8}{s:BA}{ts:List Dt}{xs:List Vu}
section
namespace Rd
open Go.RowKit
def ResN(b:Nat)(s:BA)(d:Nat)(r:Py.R)(w:Wd)(e:En)(w':Wd):Prop:=
 Only b w w'/\
 match r with
 | .inl (c,k)=>∃N,e=.returned (.tuple #[El.nil.v,.pointer (some ⟨N,0,none⟩)])/\w.heap.size<=N/\w'.heap[N]? =some (.cells #[.int .i64 (c:Int),.int .i64 ((s.size-k:Nat):Int)] 126 (0,0))/\∃p',Rd b s p' d w'
 | .inr (ts,r)=>∃(x:El) (t:Dt),ts=[t]/\e=.returned (.tuple #[x.v,.pointer none])/\Rep w.heap.size NoB w' (33-d) x t/\Rd b s (s.size-r.length) d w'
theorem qjh(b:Nat)(s:BA)(p d:Nat)(w:Wd)(h:Rd b s p d w)(r:p<s.size)(t:s.size<=1200)(l:d=30):
  Calls prog 148 #[.pointer (some ⟨b,0,none⟩),.func (.func 149) #[.pointer (some ⟨b,0,none⟩)] #[]] w λe w'=>Res b s d (.inl (4,s.size-p)) w e w':=by
 have u:=h.lt;have x:=h.c1;have y:=h.c2;have m:=hZ h;have n:((d:Int)==30)=true:=by simp;omega
 clear h l;go_enter func148,ntmps148
 go_wp2_with (go_at_call 147;refine(qbn _ _ _).mono ?_;rintro e w' ⟨N,rfl,k,c,a⟩;refine Hid.out ?_)
 have f:Only b w w':=Only.of ((Only.refl b w).alloc _) a;have g:=hZ ((m.out.alloc _).below a (by first|omega|(simp;done)|(simp;omega)));have o:Box w.heap.size w':=(Box.new w _ _ _ _ _ _).below a (by first|omega|(simp;done)|(simp;omega));have q:w.heap.size+1<=N:=by first|omega|(simp at k;omega)
 obtain⟨⟨z,A⟩,⟨B,C⟩,⟨D,E⟩,⟨F,G⟩,⟨H,I⟩,⟨J,K⟩,L⟩:=o;have i:=hZ c;have j:=hZ f;clear k c a f;refine hZ ?_;go_wp2;refine bodyPost_ret (v:=.tuple #[El.nil.v,.pointer (some ⟨N,0,none⟩)]) (by simp[results,results148,go_sem, *]) rfl ?_;exact Res.err j.out (eR _) (by omega) (by omega) i.out rfl (by omega) g.out (by omega) _ _ _ _ _ _
theorem qmp(b:Nat)(s:BA)(p d:Nat)(r:Py.R)(w:Wd)(h:Rd b s p d w)(hp:p<s.size)(hs:s.size<=1200)(F:d<30)(G:GV w)(n:6<=b)
  (H:∀w,Rd b s (p+1) (d+1) w->GV w->Calls prog 149 #[.pointer (some ⟨b,0,none⟩)] w λe w'=>ResN b s (d+1) r w e w'):
  Calls prog 148 #[.pointer (some ⟨b,0,none⟩),.func (.func 149) #[.pointer (some ⟨b,0,none⟩)] #[]] w λe w'=>Res b s d r w e w':=by
 have I:=h.lt;have h1:=h.c1;have h2:=h.c2;have hf:=h.fz 1;have O:=h.fz 2;have J:=hZ h;have K:=hZ G;have L:=hZ H;clear h G H;have P:((d:Int)==30)=false:=by simp;omega
 rcases r with⟨c,k⟩|⟨ts,rr⟩
 ·go_enter func148,ntmps148
  go_wp2_with (go_at_call 149;refine(L.out _ (by exact((J.out.set1 (p+1) _ (by omega)).set2 (d+1) _ (by omega)).alloc _) (by exact(K.out.only ((((Only.refl b w).set _ _).set _ _).alloc _) n (by omega)))).mono ?_;rintro e w1 ⟨f,N,rfl,o,M,p',i⟩;refine Hid.out ?_)
  have z:w.heap.size+1<=w1.heap.size:=by have:=f.size;simp at this;omega
  have A:b<w1.heap.size:=by omega
  have B:w.heap.size<w1.heap.size:=by omega
  have C:¬b=w.heap.size:=by omega
  have q:¬w.heap.size=b:=by omega
  have l:=hZ (((((Only.refl b w).set _ _).set _ _).alloc _).trans f);have Q:=i.c2;have gf:=i.fz 2;have m:=hZ i;obtain⟨⟨S,T⟩,⟨U,V⟩,⟨W,X⟩,⟨Y,Z⟩,⟨y4,k4⟩,⟨y5,k5⟩,kf⟩:=(Box.new2 w _ _ _ _ _ _ _ _ _ _).kept f (by intro e;cases e;omega) (by simp);have a0:w.heap.size+1<=N:=by simpa using o
  have HN:=hZ M;clear f M o i;refine hZ ?_;go_wp2;refine bodyPost_ret (v:=.tuple #[El.nil.v,.pointer (some ⟨N,0,none⟩)]) (by simp[results,results148,go_sem, *]) rfl ?_;exact(Res.err (l.out.set 2 _) (eR _) (by omega) (by omega) (by rw[Below.heap_setCell _ _ _ _ (by show N≠b;omega)];exact HN.out) rfl rfl (m.out.set2 d _ rfl) I _ _ _ _ _ _).alloc _
 ·go_enter func148,ntmps148
  go_wp2_with (go_at_call 149;refine(L.out _ (by exact((J.out.set1 (p+1) _ (by omega)).set2 (d+1) _ (by omega)).alloc _) (by exact(K.out.only ((((Only.refl b w).set _ _).set _ _).alloc _) n (by omega)))).mono ?_;rintro e w1 ⟨f,x,t,rfl,rfl,a,j⟩;refine Hid.out ?_)
  have z:w.heap.size+1<=w1.heap.size:=by have:=f.size;simp at this;omega
  have A:b<w1.heap.size:=by omega
  have B:w.heap.size<w1.heap.size:=by omega
  have C:¬b=w.heap.size:=by omega
  have q:¬w.heap.size=b:=by omega
  have l:=hZ (((((Only.refl b w).set _ _).set _ _).alloc _).trans f);have Q:=j.c2;have gf:=j.fz 2;have m:=hZ j;obtain⟨⟨S,T⟩,⟨U,V⟩,⟨W,X⟩,⟨Y,Z⟩,⟨y4,k4⟩,⟨y5,k5⟩,kf⟩:=(Box.new2 w _ _ _ _ _ _ _ _ _ _).kept f (by intro e;cases e;omega) (by simp);have HRep:=hZ a;clear f a j;obtain⟨xk,xn,D,E,xm,xa,u,y⟩:=x;refine hZ ?_;go_wp2;refine bodyPost_ret (v:=.tuple #[El.v ⟨xk,xn,D,E,xm,xa,u,y⟩,.pointer none]) (by simp[results,results148,go_sem, *]) rfl ?_;have a:=HRep.out;rw[show 33-(d+1)=32-d from by omega]at a;exact(Res.ok (l.out.set 2 _) (eR _) (by simp) I (Rep.kept ((Only.refl b w1).set 2 _) (λg h=>by cases h;left;simp;omega) a) (m.out.set2 d _ rfl) rfl _ _ _ _ _ _).alloc _
theorem qjg(b:Nat)(s:BA)(p d:Nat)(w:Wd)(h:Rd b s p d w)(r:p<s.size)(t:s.size<=1200)(l:d=30):
  Calls prog 148 #[.pointer (some ⟨b,0,none⟩),.func (.func 150) #[.pointer (some ⟨b,0,none⟩)] #[]] w λe w'=>Res b s d (.inl (4,s.size-p)) w e w':=by
 have u:=h.lt;have x:=h.c1;have y:=h.c2;have m:=hZ h;have n:((d:Int)==30)=true:=by simp;omega
 clear h l;go_enter func148,ntmps148
 go_wp2_with (go_at_call 147;refine(qbn _ _ _).mono ?_;rintro e w' ⟨N,rfl,k,c,a⟩;refine Hid.out ?_)
 have f:Only b w w':=Only.of ((Only.refl b w).alloc _) a;have g:=hZ ((m.out.alloc _).below a (by first|omega|(simp;done)|(simp;omega)));have o:Box w.heap.size w':=(Box.new w _ _ _ _ _ _).below a (by first|omega|(simp;done)|(simp;omega));have q:w.heap.size+1<=N:=by first|omega|(simp at k;omega)
 obtain⟨⟨z,A⟩,⟨B,C⟩,⟨D,E⟩,⟨F,G⟩,⟨H,I⟩,⟨J,K⟩,L⟩:=o;have i:=hZ c;have j:=hZ f;clear k c a f;refine hZ ?_;go_wp2;refine bodyPost_ret (v:=.tuple #[El.nil.v,.pointer (some ⟨N,0,none⟩)]) (by simp[results,results148,go_sem, *]) rfl ?_;exact Res.err j.out (eR _) (by omega) (by omega) i.out rfl (by omega) g.out (by omega) _ _ _ _ _ _
theorem qmo(b:Nat)(s:BA)(p d:Nat)(r:Py.R)(w:Wd)(h:Rd b s p d w)(hp:p<s.size)(hs:s.size<=1200)(F:d<30)(G:GV w)(n:6<=b)
  (H:∀w,Rd b s (p+1) (d+1) w->GV w->Calls prog 150 #[.pointer (some ⟨b,0,none⟩)] w λe w'=>ResN b s (d+1) r w e w'):
  Calls prog 148 #[.pointer (some ⟨b,0,none⟩),.func (.func 150) #[.pointer (some ⟨b,0,none⟩)] #[]] w λe w'=>Res b s d r w e w':=by
 have I:=h.lt;have h1:=h.c1;have h2:=h.c2;have hf:=h.fz 1;have O:=h.fz 2;have J:=hZ h;have K:=hZ G;have L:=hZ H;clear h G H;have P:((d:Int)==30)=false:=by simp;omega
 rcases r with⟨c,k⟩|⟨ts,rr⟩
 ·go_enter func148,ntmps148
  go_wp2_with (go_at_call 150;refine(L.out _ (by exact((J.out.set1 (p+1) _ (by omega)).set2 (d+1) _ (by omega)).alloc _) (by exact(K.out.only ((((Only.refl b w).set _ _).set _ _).alloc _) n (by omega)))).mono ?_;rintro e w1 ⟨f,N,rfl,o,M,p',i⟩;refine Hid.out ?_)
  have z:w.heap.size+1<=w1.heap.size:=by have:=f.size;simp at this;omega
  have A:b<w1.heap.size:=by omega
  have B:w.heap.size<w1.heap.size:=by omega
  have C:¬b=w.heap.size:=by omega
  have q:¬w.heap.size=b:=by omega
  have l:=hZ (((((Only.refl b w).set _ _).set _ _).alloc _).trans f);have Q:=i.c2;have gf:=i.fz 2;have m:=hZ i;obtain⟨⟨S,T⟩,⟨U,V⟩,⟨W,X⟩,⟨Y,Z⟩,⟨y4,k4⟩,⟨y5,k5⟩,kf⟩:=(Box.new2 w _ _ _ _ _ _ _ _ _ _).kept f (by intro e;cases e;omega) (by simp);have a0:w.heap.size+1<=N:=by simpa using o
  have HN:=hZ M;clear f M o i;refine hZ ?_;go_wp2;refine bodyPost_ret (v:=.tuple #[El.nil.v,.pointer (some ⟨N,0,none⟩)]) (by simp[results,results148,go_sem, *]) rfl ?_;exact(Res.err (l.out.set 2 _) (eR _) (by omega) (by omega) (by rw[Below.heap_setCell _ _ _ _ (by show N≠b;omega)];exact HN.out) rfl rfl (m.out.set2 d _ rfl) I _ _ _ _ _ _).alloc _
 ·go_enter func148,ntmps148
  go_wp2_with (go_at_call 150;refine(L.out _ (by exact((J.out.set1 (p+1) _ (by omega)).set2 (d+1) _ (by omega)).alloc _) (by exact(K.out.only ((((Only.refl b w).set _ _).set _ _).alloc _) n (by omega)))).mono ?_;rintro e w1 ⟨f,x,t,rfl,rfl,a,j⟩;refine Hid.out ?_)
  have z:w.heap.size+1<=w1.heap.size:=by have:=f.size;simp at this;omega
  have A:b<w1.heap.size:=by omega
  have B:w.heap.size<w1.heap.size:=by omega
  have C:¬b=w.heap.size:=by omega
  have q:¬w.heap.size=b:=by omega
  have l:=hZ (((((Only.refl b w).set _ _).set _ _).alloc _).trans f);have Q:=j.c2;have gf:=j.fz 2;have m:=hZ j;obtain⟨⟨S,T⟩,⟨U,V⟩,⟨W,X⟩,⟨Y,Z⟩,⟨y4,k4⟩,⟨y5,k5⟩,kf⟩:=(Box.new2 w _ _ _ _ _ _ _ _ _ _).kept f (by intro e;cases e;omega) (by simp);have HRep:=hZ a;clear f a j;obtain⟨xk,xn,D,E,xm,xa,u,y⟩:=x;refine hZ ?_;go_wp2;refine bodyPost_ret (v:=.tuple #[El.v ⟨xk,xn,D,E,xm,xa,u,y⟩,.pointer none]) (by simp[results,results148,go_sem, *]) rfl ?_;have a:=HRep.out;rw[show 33-(d+1)=32-d from by omega]at a;exact(Res.ok (l.out.set 2 _) (eR _) (by simp) I (Rep.kept ((Only.refl b w1).set 2 _) (λg h=>by cases h;left;simp;omega) a) (m.out.set2 d _ rfl) rfl _ _ _ _ _ _).alloc _
end Rd
end
section
namespace Rd
open Go.RowKit
theorem qmn(a:BA)(w:Wd):
  Calls prog 239 #[.string a] w λe w'=>e=.returned (.agg #[.int .i64 3,.int .i64 0,.bool false,.string a,.int .i64 0,.slice none 0 0])/\w.alloc (.cells #[.int .i64 3,.int .i64 0,.bool false,.string a,.int .i64 0,.slice none 0 0] 134)=w':=by
 go_enter func239,ntmps239
 go_wp2;exact bodyPost_ret (v:=El.v ⟨3,0,false,a,0,none,0,0⟩) (by simp[results,results239,go_sem]) rfl ⟨rfl,rfl⟩
theorem qk8(a:OA)(len cap:Nat)(w:Wd):
  Calls prog 238 #[.slice a len cap] w λe w'=>e=.returned (.agg #[.int .i64 4,.int .i64 0,.bool false,.string ⟨#[]⟩,.int .i64 0,.slice a len cap])/\w.alloc (.cells #[.int .i64 4,.int .i64 0,.bool false,.string ⟨#[]⟩,.int .i64 0,.slice a len cap] 134)=w':=by
 go_enter func238,ntmps238
 go_wp2;exact bodyPost_ret (v:=El.v ⟨4,0,false,⟨#[]⟩,0,a,len,cap⟩) (by simp[results,results238,go_sem]) rfl ⟨rfl,rfl⟩
def qxx(r:Py.R):Py.R:=match r with
 | .inl e=>.inl e
 | .inr (xs,rr)=>.inr ([.list (.sym Px.quoteT 0::xs)],rr)
theorem qq4(W:Wd)(A B R C:Obj)(n:Nat)(a:n=W.heap.size):((((W.alloc A).alloc B).alloc R).alloc C).heap[n+1+1]? =some R:=by
 subst a;rw[eH _ _ _ (by simp)];have:=eN ((W.alloc A).alloc B) R
 rwa [show((W.alloc A).alloc B).heap.size=W.heap.size+1+1 from by simp]at this
theorem ResN.quote{d G:Nat}{j:Wd}{x:El}{t:Dt}(o:Only b w j)(p:w.heap.size<=G)
  (l:j.heap[G]? =some (.cells #[.int .i64 3,.int .i64 0,.bool false,.string ⟨#[113,117,111,116,101]⟩,.int .i64 0,.slice none 0 0,.int .i64 x.k,.int .i64 x.n,.bool x.tr,.string x.tx,.int .i64 x.m,.slice x.a x.len x.cap] 134 (0,0)))
  (e:Rep w.heap.size NoB j (32-d) x t)(r:d<=30)(q:Rd b s (s.size-rr.length) d j):
  ResN b s d (.inr ([.list (.sym Px.quoteT 0::[t])],rr)) w (.returned (.tuple #[El.v ⟨4,0,false,⟨#[]⟩,0,some ⟨G,0,none⟩,2,2⟩,.pointer none])) j:=by
 refine⟨o,⟨4,0,false,⟨#[]⟩,0,some ⟨G,0,none⟩,2,2⟩,_,rfl,rfl,?_,q⟩;rw[show 33-d=(32-d)+1 from by omega];refine .inr (.inr (.inr (.inr ⟨rfl,[⟨3,0,false,⟨#[113,117,111,116,101]⟩,0,none,0,0⟩,x],[.sym Px.quoteT 0,t],rfl,rfl,⟨rfl,⟨rfl,.inr ⟨G,2,_,rfl,p,l,eR _,by decide,rfl,rfl⟩⟩,λg h=>by cases h⟩,?_⟩)));intro i y u c f;rw[show 32-d=(31-d)+1 from by omega]
 match i,c,f with
 |0,c,f=>simp at c f;subst c;subst f;exact .inr (.inr (.inr (.inl ⟨rfl,rfl,rfl⟩)))
 |1,c,f=>simp at c f;subst c;subst f;rw[show 32-d=(31-d)+1 from by omega]at e;exact e
 |i+2,c,f=>simp at c
theorem Only.drew(h:Only b w w'):Only b w w'.drew:=⟨h.os,h.tape,h.output,h.size,h.block⟩
theorem qly(W:Wd)(A B R C:Obj):W.grownBy ((((W.alloc A).alloc B).alloc R).alloc C).drew none:=
 ⟨rfl,rfl,rfl,by simp;omega,λk a _=>by
  show((((W.alloc A).alloc B).alloc R).alloc C).heap[k]? =_;rw[eH _ _ _ (by simp;omega),eH _ _ _ (by simp;omega),eH _ _ _ (by simp;omega),eH _ _ _ a]⟩
theorem qsa{d:Nat}{w1:Wd}{x:El}{t:Dt}(o:Only b w w1)(p:w.heap.size<=g)(j:g<lo)(c:w.heap.size<=lo)(F:b<w.heap.size)(q:d<=30)
  (f:Rep lo NoB w1 (32-d) x t)(r:Rd b s (s.size-rr.length) d w1)(v0 v1 v2 v3 v4 v5:Vu)(A B C:Obj):
  ResN b s d (.inr ([.list (.sym Px.quoteT 0::[t])],rr)) w (.returned (.tuple #[El.v ⟨4,0,false,⟨#[]⟩,0,some ⟨w1.heap.size+1+1,0,none⟩,2,2⟩,.pointer none]))
   (((((quu w1 g v0 v1 v2 v3 v4 v5).alloc A).alloc B).alloc (.cells #[.int .i64 3,.int .i64 0,.bool false,.string ⟨#[113,117,111,116,101]⟩,.int .i64 0,.slice none 0 0,.int .i64 x.k,.int .i64 x.n,.bool x.tr,.string x.tx,.int .i64 x.m,.slice x.a x.len x.cap] 134 (0,0))).alloc C).drew:=by
 have l:=qce w1 g v0 v1 v2 v3 v4 v5;have u:w1.heap.size=(quu w1 g v0 v1 v2 v3 v4 v5).heap.size:=by simp
 have y:Only b w (quu w1 g v0 v1 v2 v3 v4 v5):=o.new l p;have z:Rep lo NoB (quu w1 g v0 v1 v2 v3 v4 v5) (32-d) x t:=Rep.kept l (λG h=>by cases h;exact .inl j) f;have D:Rd b s (s.size-rr.length) d (quu w1 g v0 v1 v2 v3 v4 v5):=r.kept l (by intro e;cases e;omega);have E:=o.size;generalize quu w1 g v0 v1 v2 v3 v4 v5=W at*;have i:=qly W A B (.cells #[.int .i64 3,.int .i64 0,.bool false,.string ⟨#[113,117,111,116,101]⟩,.int .i64 0,.slice none 0 0,.int .i64 x.k,.int .i64 x.n,.bool x.tr,.string x.tx,.int .i64 x.m,.slice x.a x.len x.cap] 134 (0,0)) C;exact ResN.quote (((((y.alloc _).alloc _).alloc _).alloc _).drew) (by omega) (qq4 W A B _ C _ u) (Rep.turn c (λg h=>by cases h) (Rep.kept i (λg h=>by cases h) z)) q (D.kept i (by simp))
theorem qpt(b:Nat)(s:BA)(p d:Nat)(r:Py.R)(w:Wd)(h:Rd b s p d w)(l:d<=30)(G:GV w)(m:6<=b)
  (H:∀w,Rd b s p d w->GV w->Calls prog 88 #[.pointer (some ⟨b,0,none⟩)] w λe w'=>Res b s d r w e w'):
  Calls prog 150 #[.pointer (some ⟨b,0,none⟩)] w λe w'=>ResN b s d (qxx r) w e w':=by
 have I:=h.lt;have J:=hZ h;have K:=hZ G;have L:=hZ H;clear h G H;rcases r with⟨c,k⟩|⟨ts,rr⟩
 ·show Calls prog 150 #[.pointer (some ⟨b,0,none⟩)] w λe w'=>ResN b s d (.inl (c,k)) w e w'
  go_enter func150,ntmps150
  go_wp2_with (go_at_call 88;refine(L.out _ (by exact J.out.alloc _) (by exact(K.out.only ((Only.refl b w).alloc _) m (by omega)))).mono ?_;rintro e w1 ⟨a,N,rfl,n,M,p',o⟩;refine Hid.out ?_)
  have C:w.heap.size+1<=w1.heap.size:=by have:=a.size;simp at this;omega
  have D:w.heap.size<w1.heap.size:=by omega
  have g:=hZ (((Only.refl b w).alloc _).trans a);have j:=hZ o;have V:w.heap.size+1<=N:=by simpa using n
  have W:=hZ M;obtain⟨⟨X,Y⟩,⟨Z,k1⟩,⟨y2,k2⟩,⟨y3,k3⟩,⟨y4,k4⟩,⟨y5,k5⟩,O⟩:=(Box.new w _ _ _ _ _ _).kept a (by intro e;cases e;omega) (by simp);clear a M n o;refine hZ ?_;go_wp2;refine bodyPost_ret (v:=.tuple #[El.nil.v,.pointer (some ⟨N,0,none⟩)]) (by simp[results,results150,go_sem, *]) rfl ?_;exact(Res.err g.out (eR _) (by omega) (by omega) W.out rfl rfl j.out I _ _ _ _ _ _).alloc _
 ·show Calls prog 150 #[.pointer (some ⟨b,0,none⟩)] w λe w'=>ResN b s d (.inr ([.list (.sym Px.quoteT 0::ts)],rr)) w e w'
  go_enter func150,ntmps150
  go_wp2_with (go_at_call 88;refine(L.out _ (by exact J.out.alloc _) (by exact(K.out.only ((Only.refl b w).alloc _) m (by omega)))).mono ?_;rintro e w1 ⟨a,x,t,rfl,rfl,f,q⟩;refine Hid.out ?_)
  have C:w.heap.size+1<=w1.heap.size:=by have:=a.size;simp at this;omega
  have D:w.heap.size<w1.heap.size:=by omega
  have g:=hZ (((Only.refl b w).alloc _).trans a);have j:=hZ q;have HRep:=hZ f;obtain⟨⟨X,Y⟩,⟨Z,k1⟩,⟨y2,k2⟩,⟨y3,k3⟩,⟨y4,k4⟩,⟨y5,k5⟩,O⟩:=(Box.new w _ _ _ _ _ _).kept a (by intro e;cases e;omega) (by simp);clear a f q;obtain⟨xk,xn,E,F,xm,xa,u,y⟩:=x;refine hZ ?_;go_wp2;have P:w.heap.size<w1.heap.size+1:=by omega
  have Q:w.heap.size<w1.heap.size+1+1:=by omega
  have S:w.heap.size<w1.heap.size+2:=by omega
  have T:w.heap.size<w1.heap.size+1+1+1:=by omega
  have U:w.heap.size<w1.heap.size+3:=by omega
  have kc:∀z o2 A B:Obj,∀i:Nat,((((w1.alloc z).alloc o2).alloc A).alloc B).cell? ⟨w.heap.size,i,none⟩=w1.cell? ⟨w.heap.size,i,none⟩:=by
   intro z o2 A B i;exact(((((Below.refl (w.heap.size+1) w1).alloc (by omega) _).alloc (by simp;omega) _).alloc (by simp;omega) _).alloc (by simp;omega) _).cell (p:=⟨w.heap.size,i,none⟩) (by simp)
  have kz:∀z o2 A B:Obj,∀i:Nat,((((w1.alloc z).alloc o2).alloc A).alloc B).frozen? ⟨w.heap.size,i,none⟩=false:=by
   intro z o2 A B i;rw[(((((Below.refl (w.heap.size+1) w1).alloc (by omega) _).alloc (by simp;omega) _).alloc (by simp;omega) _).alloc (by simp;omega) _).frozen (p:=⟨w.heap.size,i,none⟩) (by simp)];exact O i
  go_region_with (first|(go_at_call 239;refine(qmn _ _).mono ?_;rintro e w2 ⟨rfl,rfl⟩)|(go_at_call 238;refine(qk8 _ _ _ _).mono ?_;rintro e w2 ⟨rfl,rfl⟩))
  all_goals go_wp2
  all_goals
   refine bodyPost_ret (v:=.tuple #[El.v ⟨4,0,false,⟨#[]⟩,0,some ⟨w1.heap.size+1+1,0,none⟩,2,2⟩,.pointer none]) (by simp[results,results150,go_sem, *]) rfl ?_;exact qsa (x:=⟨xk,xn,E,F,xm,xa,u,y⟩) g.out (eR _) (by simp) (by simp) I l HRep.out j.out _ _ _ _ _ _ _ _ _
end Rd
end
section
namespace Rd
open Go.RowKit
theorem q1i(s:BA)(q:Nat)(rr:List UInt8)(h:rr<:+L s q):L s (s.size-rr.length)=rr:=by
 have a:rr<:+s.data.toList:=h.trans (by unfold L;exact List.drop_suffix _ _);unfold L;have:=List.suffix_iff_eq_drop.1 a;rw[show s.size=s.data.toList.length from by simp];exact this.symm
def Bl(v:Vu):Nat->Prop:=λk=>v.ownBlock=some k
structure Mem (lo m:Nat) (own:Nat->Prop) (w:Wd) (es:List El) (ts:List Dt):Prop where
 len:es.length=ts.length
 all:∀(i:Nat) (x:El) (u:Dt),es[i]? =some x->ts[i]? =some u->Rep lo own w m x u
theorem Mem.nil(lo m:Nat)(own:Nat->Prop)(w:Wd):Mem lo m own w [] []:=⟨rfl,λi x u h=>by simp at h⟩
theorem Mem.kept{own:Nat->Prop}{row:Option Nat}{es:List El}(h:Mem lo m own w es ts)(a:w.grownBy w' row)(b:∀g,row=some g->g<lo\/own g):Mem lo m own w' es ts:=
 ⟨h.len,λi x u c d=>Rep.kept a b (h.all i x u c d)⟩
theorem Mem.turn{own a:Nat->Prop}{es:List El}(h:Mem lo m own w es ts)(b:∀g,a g->own g\/w.heap.size<=g\/g<lo):Mem lo m a w es ts:=
 ⟨h.len,λi x u c d=>Rep.turn (eR _) b (h.all i x u c d)⟩
theorem Mem.snoc{own:Nat->Prop}{es:List El}(h:Mem lo m own w es ts){x:El}{t:Dt}(c:Rep lo own w m x t):Mem lo m own w (es++[x]) (ts++[t]):=by
 refine⟨by simp[h.len],λi y u a b=>?_⟩;rcases Nat.lt_trichotomy i es.length with hi|hi|hi
 ·rw[eA hi]at a;rw[eA (by rw[<-h.len];exact hi)]at b;exact h.all i y u a b
 ·subst hi;rw[eB (eR _)]at a;rw[h.len,eB (eR _)]at b;simp at a b;subst a;subst b;exact c
 ·rw[List.getElem?_eq_none (by simp;omega)]at a;cases a
def ql0(F:Nat):Prop:=∀(b:Nat) (s:BA) (p d:Nat) (w:Wd),Rd b s p d w->p<=s.size->s.size<=1200->d<=30->GV w->6<=b->2*(s.size-p)+1<=F->
 Calls prog 88 #[.pointer (some ⟨b,0,none⟩)] w λe w'=>Res b s d (Py.rd F false d (L s p)) w e w'
def qsx(r:Py.R):Py.R:=match r with
 | .inl e=>.inl e
 | .inr (xs,rr)=>.inr ([.list xs],rr)
theorem info134:(prog.info? 134).map (λi=>(i.zero,i.size,i.bytes))=some (some (.agg #[.int .i64 0,.int .i64 0,.bool false,.string ⟨#[]⟩,.int .i64 0,.slice none 0 0]),6,72):=by kernel_rfl
theorem qvz{v:Vu}(h:w.ownsRow lo 134 6 v n xs):∃a cap,v=.slice a n cap:=by
 rcases h.2 with⟨b,c⟩|⟨g,cap,d,b,_⟩
 ·subst c;exact⟨_,_,b⟩
 ·exact⟨_,_,b⟩
theorem ResN.list{d:Nat}{a:OA}{cap:Nat}{es:List El}(j:Only b w W)(e:w.heap.size<=lo)
  (f:W.ownsRow lo 134 6 (.slice a es.length cap) es.length (es.flatMap El.cells))(c:Mem lo (32-d) (Bl (Value.slice a es.length cap)) W es ts)(o:d<=30)(k:Rd b s p d W)(l:p=s.size-rr.length):
  ResN b s d (.inr ([.list ts],rr)) w (.returned (.tuple #[El.v ⟨4,0,false,⟨#[]⟩,0,a,es.length,cap⟩,.pointer none])) W:=by
 subst l;refine⟨j,⟨4,0,false,⟨#[]⟩,0,a,es.length,cap⟩,_,rfl,rfl,?_,k⟩;rw[show 33-d=(32-d)+1 from by omega];exact .inr (.inr (.inr (.inr ⟨rfl,es,ts,rfl,c.len,⟨rfl,qfg f e,λg h=>by cases h⟩,λi x u m n=>Rep.turn e (λg h=>by cases h) (c.all i x u m n)⟩)))
theorem ResN.alloc{d:Nat}{r:Py.R}{e:En}(h:ResN b s d r w e w')(o:Obj):ResN b s d r w e (w'.alloc o):=by
 rcases r with⟨c,k⟩|⟨ts,rr⟩
 ·obtain⟨f,N,i,j,m,n,l⟩:=h;exact⟨f.alloc o,N,i,j,by rw[eH _ _ _ (eE.1 m).1];exact m,n,l.alloc o⟩
 ·obtain⟨f,x,t,p,i,a,l⟩:=h;exact⟨f.alloc o,x,t,p,i,Rep.kept (World.grownBy_alloc w' o none) (λg h=>by cases h) a,l.alloc o⟩
theorem qv9{d:Nat}{a:OA}{cap:Nat}{es:List El}(j:Only b w W)(o:w.heap.size=g)(q:b<w.heap.size)
  (f:W.ownsRow (g+1) 134 6 (.slice a es.length cap) es.length (es.flatMap El.cells))(i:Mem (g+1) (32-d) (Bl (Value.slice a es.length cap)) W es ts)(l:d<=30)(m:Rd b s p d W)(n:p=s.size-rr.length)(v0 v1 v2 v3 v4 v5:Vu):
  ResN b s d (.inr ([.list ts],rr)) w (.returned (.tuple #[El.v ⟨4,0,false,⟨#[]⟩,0,a,es.length,cap⟩,.pointer none])) (quu W g v0 v1 v2 v3 v4 v5):=by
 have c:=qce W g v0 v1 v2 v3 v4 v5;refine ResN.list (lo:=g+1) (j.new c (by omega)) (by omega) (f.kept c ?_) (i.kept c (λr h=>by cases h;left;omega)) l (m.kept c (by intro e;cases e;omega)) n;cases hv:(Value.slice a es.length cap).ownBlock with
 |none=>exact .inl rfl
 |some k=>right;intro e;cases e;have:=(f.lt _ hv).1;omega
def q7u(F b:Nat)(s:BA)(p d:Nat)(w:Wd)(mv:Vu)(wr:Wd):Prop:=
 ∃(q f:Nat) (es:List El) (ts:List Dt),p<=q/\q<=s.size/\Px.skip false (L s q)=L s q/\Rd b s q d wr/\Only b w wr/\Box w.heap.size wr/\w.heap.size<wr.heap.size/\
  wr.ownsRow (w.heap.size+1) 134 6 mv es.length (es.flatMap El.cells)/\Mem (w.heap.size+1) (32-d) (Bl mv) wr es ts/\es.length<=q/\f<=F/\2*(s.size-q)+2<=f/\
  Py.rd F true d (L s p)=Py.pre ts (Py.rd f true d (L s q))
theorem qje{w w':Wd}{lo b:Nat}{v:Vu}{n:Nat}{xs:List Vu}(h:w.ownsRow lo 134 6 v n xs)(a:Only b w w')(c:b<lo):w'.ownsRow lo 134 6 v n xs:=by
 refine h.kept a ?_;cases hv:v.ownBlock with
 |none=>exact .inl rfl
 |some k=>right;intro e;cases e;have:=(h.lt _ hv).1;omega
theorem Mem.only{own:Nat->Prop}{es:List El}(h:Mem lo m own w es ts)(a:Only b w w')(c:b<lo):Mem lo m own w' es ts:=
 h.kept a (λg e=>by cases e;left;exact c)
theorem Only.newO{row:Option Nat}{w2:Wd}(h:Only b w w')(a:w'.grownBy w2 row)(d:∀g,row=some g->w.heap.size<=g):Only b w w2:=
 ⟨a.os.trans h.os,a.tape.trans h.tape,a.output.trans h.output,eT h.size a.size,λi c hne=>(a.block i (eW c h.size) (by intro e;have:=d i e.symm;omega)).trans (h.block i c hne)⟩
theorem Mem.grow{v:Vu}{H:Nat}{es:List El}(h:Mem lo m (Bl v) w es ts)(e:w.grownBy w' v.ownBlock)(a:v.ownBlock=some g\/g=H)(n:w.heap.size=H){sl:Vu}(b:sl.ownBlock=some g)
  {x:El}{t:Dt}{lo2:Nat}(f:Rep lo2 NoB w m x t)(c:lo<=lo2)(d:∀k,v.ownBlock=some k->k<lo2):Mem lo m (Bl sl) w' (es++[x]) (ts++[t]):=by
 have i:Mem lo m (λk=>Bl v k\/k=g) w es ts:=h.turn (λk hk=>by
  rcases hk with hk|hk
  ·exact .inl hk
  ·subst hk;rcases a with ha|ha
   ·exact .inl ha
   ·right;left;omega)
 have j:Rep lo (λk=>Bl v k\/k=g) w m x t:=Rep.turn c (λk hk=>by
  right;rcases hk with hk|hk
  ·right;exact d k hk
  ·subst hk;rcases a with ha|ha
   ·right;exact d _ ha
   ·left;omega) f
 have l:=(i.snoc j).kept e (λk hk=>.inr (.inl hk));exact l.turn (λk hk=>.inl (.inr (by unfold Bl at hk;rw[b]at hk;cases hk;rfl)))
theorem list_any(F b:Nat)(s:BA)(p d:Nat)(w:Wd)(h:Rd b s p d w)(hp:p<=s.size)(hs:s.size<=1200)(E:d<=30)(hG:GV w)(P:6<=b)(hF:2*(s.size-p)+2<=F)
  (hD:∀F',F'<F->ql0 F'):
  Calls prog 149 #[.pointer (some ⟨b,0,none⟩)] w λe w'=>ResN b s d (qsx (Py.rd F true d (L s p))) w e w':=by
 have hb:=h.lt;have HR:=hZ h;have HG:=hZ hG;have HD:=hZ hD;clear h hG hD;go_enter func149,ntmps149
 go_wp2_with (go_at_call 86;refine(qbc b s p d _ (HR.out.alloc _) hp hs).mono ?_;rintro e w1 ⟨rfl,q0,c0,e7,a0,G,Q⟩;refine Hid.out ?_)
 have e8:=hZ G;have e9:=hZ (((Only.refl b w).alloc _).trans Q);have f0:w.heap.size<w1.heap.size:=by have:=Q.size;simp at this;omega
 have f1:=hZ ((Box.new w _ _ _ _ _ _).kept Q (by intro e;cases e;omega) (by simp));have a1:=hZ a0;clear G Q a0;refine hZ ?_;go_wp2;go_loopw [4] (q7u F b s p d w) (λ_ wr=>s.size-qdi b wr)
 case atStart=>exact⟨q0,F,[],[],c0,e7,by rw[<-a1.out,Px.skip_idem],e8.out,e9.out,f1.out,f0,World.ownsRow_nil _ _ _ _,Mem.nil _ _ _ _,by simp,eR _,by omega,by rw[<-a1.out,Py.rd_skip,Py.pre_nil]⟩
 case round=>
  obtain⟨q,f,es,ts,g6,hq,c7,hR,H,hX,hz,a2,a3,g7,g8,g9,c8⟩:=hrel;obtain⟨f,rfl⟩:∃f',f=f'+1:=⟨f-1,by omega⟩;obtain⟨i0,hi,c9,d0,d1⟩:=info_parts info134;have o:=hZ hR;have HO:=hZ H;have HX:=hZ hX;have B:=hZ a2;have I:=hZ a3;have b0:=hZ c8;have d2:=hZ c7;have d3:Hid (qdi b wr=q):=hR.pos;clear hR H hX a3 c8 c7 a2;by_cases R:∃y:q<s.size,((s[q].toNat:Int)==41)=true
  ·obtain⟨y,hc⟩:=R;have h0:=o.out.c1;have h3:=o.out.fz 1;have h4:=o.out.lt;obtain⟨a,cap,rfl⟩:=qvz B.out;have HT:Hid (qsx (Py.rd F true d (L s p))=.inr ([.list ts],L s (q+1))):=by
    show _=_;rw[b0.out,qgq s q y,Py.rd_true_close f d _ _ (by have:=beq_iff_eq.1 hc;omega)];simp[Py.pre,qsx]
   obtain⟨⟨y0,k0⟩,⟨y1,k1⟩,⟨y2,k2⟩,⟨y3,k3⟩,⟨y4,k4⟩,⟨y5,k5⟩,kf⟩:=HX.out;have h5:¬b=w.heap.size:=by omega
   have g4:¬w.heap.size=b:=by omega
   go_wp2_with (first|(go_at_call 237;refine(qb4 b s q d _ _ o.out y).mono ?_;rintro e w' ⟨rfl,n1,rfl⟩)|(go_at_call 238;refine(qk8 _ _ _ _).mono ?_;rintro e w2 ⟨rfl,rfl⟩))
   refine bodyPost_ret (v:=.tuple #[El.v ⟨4,0,false,⟨#[]⟩,0,a,es.length,cap⟩,.pointer none]) (by simp[results,results149,go_sem, *]) rfl ?_;rw[HT.out];have C:Only b wr ((wr.drewN n1).setCell ⟨b,1,none⟩ (Value.int IntKind.i64 (↑q+1))):=((Only.refl b wr).drewN _).set _ _;exact(qv9 (HO.out.trans C) rfl hb (qje B.out C (by omega)) (I.out.only C (by omega)) E ((o.out.drewN _).set1 (q+1) _ (by omega)) (by rw[qc6];omega) _ _ _ _ _ _).alloc _
  ·have d4:∀c r,L s q=c::r->c.toNat≠41:=by
    intro c r e f2;have y:q<s.size:=by
     rcases Nat.lt_or_ge q s.size with h'|h'
     ·exact h'
     ·rw[qkb s q h']at e;cases e
    rw[qgq s q y]at e;have hc:s[q]=c:=by injection e
    exact R ⟨y,by rw[hc,f2];rfl⟩
   have C:∀w0,Rd b s q d w0->Calls prog 237 #[.pointer (some ⟨b,0,none⟩),.int .u8 41] w0 λe w'=>e=.returned (.bool false)/\∃n,w'=w0.drewN n:=by
    intro w0 G;by_cases y:q<s.size
    ·have hc:((s[q].toNat:Int)==41)=false:=by
      cases hc:((s[q].toNat:Int)==41)with
      |false=>rfl
      |true=>exact absurd ⟨y,hc⟩ R
     have:=qb4 b s q d 41 w0 G y;rw[hc]at this;exact this
    ·exact qib b s q d 41 w0 G (by omega)
   have d5:=hZ C;have d6:=hZ d4;clear C d4 R;have S:=hZ (HD.out f (by omega) b s q d);cases hr:Py.rd f false d (L s q)with
   |inl ck=>
    obtain⟨c,k⟩:=ck;have HT:Hid (qsx (Py.rd F true d (L s p))=.inl (c,k)):=by
     show _=_;rw[b0.out,Py.rd_true_bad f d _ d2.out d6.out (c,k) hr (by omega)];rfl
    have T:Hid (∀w0,Rd b s q d w0->GV w0->Calls prog 88 #[.pointer (some ⟨b,0,none⟩)] w0 λe w'=>Res b s d (.inl (c,k)) w0 e w'):=by
     intro w0 h1 h2;have:=S.out w0 h1 hq hs E h2 P (by omega);rw[hr]at this;exact this
    clear hr S;go_wp2_with (first|(go_at_call 237;refine(d5.out _ o.out).mono ?_;rintro e w' ⟨rfl,n1,rfl⟩)|(go_at_call 88;refine(T.out _ (by exact o.out.drewN _) (by exact(HG.out.only (HO.out.drewN _) P (by omega)))).mono ?_;rintro e w1 ⟨H,N,rfl,d7,hN,p',d8⟩;refine Hid.out ?_))
    have f3:wr.heap.size<=w1.heap.size:=by have:=H.size;simpa using this
    have d9:w.heap.size<w1.heap.size:=by omega
    have U:=hZ ((HO.out.drewN _).trans H);have V:=hZ d8;have h6:w.heap.size+1<=N:=by simp at d7;omega
    have HN:=hZ hN;obtain⟨⟨y0,k0⟩,⟨y1,k1⟩,⟨y2,k2⟩,⟨y3,k3⟩,⟨y4,k4⟩,⟨y5,k5⟩,kf⟩:=(HX.out.drewN _).kept H (by intro e;cases e;omega) (by simpa using hz);clear H hN d7 d8;refine hZ ?_;go_wp2;refine bodyPost_ret (v:=.tuple #[El.nil.v,.pointer (some ⟨N,0,none⟩)]) (by simp[results,results149,go_sem, *]) rfl ?_;rw[HT.out];exact(Res.err U.out (eR _) (by omega) (by omega) HN.out rfl rfl V.out hb _ _ _ _ _ _).alloc _
   |inr xr=>
    obtain⟨xs,rr⟩:=xr;obtain⟨a4,e0,a5⟩:=Py.rd_short f false d (L s q) xs rr hr;obtain⟨t,rfl⟩:=a5 rfl;have HT:=hZ (Py.rd_true_more f d _ d2.out d6.out _ _ hr);have T:Hid (∀w0,Rd b s q d w0->GV w0->Calls prog 88 #[.pointer (some ⟨b,0,none⟩)] w0 λe w'=>Res b s d (.inr ([t],rr)) w0 e w'):=by
     intro w0 h1 h2;have:=S.out w0 h1 hq hs E h2 P (by omega);rw[hr]at this;exact this
    have e3:=q1i s q rr a4;have f4:=hZ e3;rw[qc6]at e0;clear hr S a4 e3 a5;go_wp2_with (first|(go_at_call 237;refine(d5.out _ o.out).mono ?_;rintro e w' ⟨rfl,n1,rfl⟩)|(go_at_call 88;refine(T.out _ (by exact o.out.drewN _) (by exact(HG.out.only (HO.out.drewN _) P (by omega)))).mono ?_;rintro e w1 ⟨H,x,t',ht,rfl,a6,b1⟩;refine Hid.out ?_))
    obtain rfl:t'=t:=(List.cons.inj ht).1.symm;clear ht;have f3:wr.heap.size<=w1.heap.size:=by have:=H.size;simpa using this
    have d9:w.heap.size<w1.heap.size:=by omega
    have J:Only b wr w1:=((Only.refl b wr).drewN n1).trans H;have U:=hZ (HO.out.trans J);have V:=hZ b1;have e4:=hZ (HX.out.kept J (by intro e;cases e;omega) hz);have K:=qje B.out J (by omega);have M:=hZ (I.out.only J (by omega));have HRep:=hZ a6;have m:=hZ K;have HV:Hid (∀k,u4.ownBlock=some k->k<wr.heap.size):=λk hk=>(B.out.lt k hk).2
    have h7:b<w1.heap.size:=b1.lt;clear H J b1 a6 K B I T;obtain⟨W,X,z,A,Y,Z,j,l⟩:=x;refine hZ ?_;go_wp2_with (at_builtin;refine wpList_append_lies _ rfl _ _ 132 rfl (w.heap.size+1) 134 i0 (.agg #[.int .i64 0,.int .i64 0,.bool false,.string ⟨#[]⟩,.int .i64 0,.slice none 0 0]) 6 72 underlying132 hi c9 d0 d1 rfl (by decide) _ _ _ rfl ((m.out.alloc _).alloc _) ⟨w1.heap.size+1,0,none⟩ 1 1 [.int .i64 W,.int .i64 X,.bool z,.string A,.int .i64 Y,.slice Z j l] rfl rfl ?c1 ?c2 (by decide) ?c3 ?c4 ?c5 (w1.heap.size+1+1) ?c6 ?_)
    case c1=>exact World.news_of_block (cs:=#[.int .i64 W,.int .i64 X,.bool z,.string A,.int .i64 Y,.slice Z j l]) (new2 _ _ _)
    case c2=>intro u hu;simp at hu;rcases hu with rfl|rfl|rfl|rfl|rfl|rfl <;> rfl
    case c3=>unfold maxLen;omega
    case c4=>omega
    case c5=>simp;omega
    case c6=>simp
    intro g cap w3 O i a7 e5;refine Hid.out ?_;have f5:=hZ (((U.out.alloc _).alloc _).newO i (λk h=>by have:=(m.out.lt k h).1;omega));have f6:=hZ (((V.out.alloc _).alloc _).kept i (by intro e;have:=(m.out.lt b e.symm).1;omega));have f7:=hZ (((e4.out.kept (World.grownBy_alloc _ _ none) (by simp) d9).kept (World.grownBy_alloc _ _ none) (by simp) (by simp;omega)).kept i (by intro e;have:=(m.out.lt _ e.symm).1;omega) (by simp;omega));have f8:w.heap.size<w3.heap.size:=by have:=i.size;simp at this;omega
    have b2:=World.grownBy_alloc w1 (Obj.cells #[Value.int IntKind.i64 W,Value.int IntKind.i64 X,Value.bool z,Value.string A,Value.int IntKind.i64 Y,Value.slice Z j l] 134) none;have b3:=World.grownBy_alloc (w1.alloc (Obj.cells #[Value.int IntKind.i64 W,Value.int IntKind.i64 X,Value.bool z,Value.string A,Value.int IntKind.i64 Y,Value.slice Z j l] 134)) (Obj.cells #[Value.int IntKind.i64 W,Value.int IntKind.i64 X,Value.bool z,Value.string A,Value.int IntKind.i64 Y,Value.slice Z j l] 134) none;have b4:=hZ (Mem.grow (sl:=.slice (some ⟨g,0,none⟩) (es.length+1) cap) (x:=⟨W,X,z,A,Y,Z,j,l⟩) (lo2:=wr.heap.size) ((M.out.kept b2 (λg h=>by cases h)).kept b3 (λg h=>by cases h)) i a7 (by simp) rfl (Rep.kept b3 (λg h=>by cases h) (Rep.kept b2 (λg h=>by cases h) HRep.out)) (by omega) HV.out);have b5:=hZ O;have f9:Hid (List.flatMap El.cells es++[Value.int IntKind.i64 W,Value.int IntKind.i64 X,Value.bool z,Value.string A,Value.int IntKind.i64 Y,Value.slice Z j l]=List.flatMap El.cells (es++[⟨W,X,z,A,Y,Z,j,l⟩])):=by
     show _=_;simp[El.cells]
    clear O i a7 e5 b2 b3 m M e4 V U HRep HV;refine hZ ?_;go_wp2_with (go_at_call 86;refine(qbc b s (s.size-rr.length) d _ f6.out (by omega) hs).mono ?_;rintro e w4 ⟨rfl,q2,g5,e6,a8,b6,D⟩;refine Hid.out ?_)
    have g0:=hZ (f5.out.trans D);have g1:=hZ b6;have g2:=hZ (f7.out.kept D (by intro e;cases e;omega) f8);have g3:w.heap.size<w4.heap.size:=by have:=D.size;omega
    have b7:=hZ (qje b5.out D (by omega));have b8:=hZ (b4.out.only D (by omega));have a9:=hZ a8;have b9:Hid (qdi b w4=q2):=b6.pos;clear b6 D a8;refine hZ ?_;go_wp2;go_roundw
    case rel=>
     refine⟨q2,f,es++[⟨W,X,z,A,Y,Z,j,l⟩],ts++[t'],by omega,e6,by rw[<-a9.out,Px.skip_idem],g1.out,g0.out,g2.out,g3,?_,b8.out,by simp;omega,by omega,by omega,?_⟩
     ·rw[<-f9.out];simpa using b7.out
     ·rw[b0.out,HT.out,Py.pre_pre,<-a9.out,f4.out]
    case measure=>
     have e1:=d3.out;have e2:=b9.out;rw[e1,e2];omega
end Rd
end
section
namespace Rd
open Go.RowKit
theorem qzn(f d:Nat)(s:BA)(p q:Nat)(a:Px.skip false (L s p)=L s q)(h:s.size<=q):Py.rd (f+1) false d (L s p)=.inl (3,0):=by
 rw[Py.rd,a,qkb s q h]
theorem qvv(f d:Nat)(s:BA)(p q:Nat)(a:Px.skip false (L s p)=L s q)(h:q<s.size)(b:s[q].toNat=40)(c:d≠30):Py.rd (f+1) false d (L s p)=qsx (Py.rd f true (d+1) (L s (q+1))):=by
 rw[Py.rd,a,qgq s q h];simp only;rw[if_pos b,if_neg c];rcases Py.rd f true (d+1) (L s (q+1))with e|⟨xs,rr⟩ <;> rfl
theorem qoc(f d:Nat)(s:BA)(p q:Nat)(b:Px.skip false (L s p)=L s q)(h:q<s.size)(hc:s[q].toNat=40\/s[q].toNat=39)(a:d=30):Py.rd (f+1) false d (L s p)=.inl (4,s.size-q):=by
 rw[Py.rd,b,qgq s q h];simp only;have e:(L s (q+1)).length+1=s.size-q:=by rw[qc6];omega
 rcases hc with hc|hc
 ·rw[if_pos hc,if_pos a,e]
 ·rw[if_neg (by omega),if_pos hc,if_pos a,e]
theorem qr9(f d:Nat)(s:BA)(p q:Nat)(a:Px.skip false (L s p)=L s q)(h:q<s.size)(b:s[q].toNat=39)(c:d≠30):Py.rd (f+1) false d (L s p)=qxx (Py.rd f false (d+1) (L s (q+1))):=by
 rw[Py.rd,a,qgq s q h];simp only;rw[if_neg (by omega),if_pos b,if_neg c];rcases Py.rd f false (d+1) (L s (q+1))with e|⟨xs,rr⟩ <;> rfl
theorem qzm(f d:Nat)(s:BA)(p q:Nat)(a:Px.skip false (L s p)=L s q)(h:q<s.size)(b:s[q].toNat=34):Py.rd (f+1) false d (L s p)=Py.str (L s (q+1)):=by
 rw[Py.rd,a,qgq s q h];simp only;rw[if_neg (by omega),if_neg (by omega),if_pos b]
theorem qr8(f d:Nat)(s:BA)(p q:Nat)(a:Px.skip false (L s p)=L s q)(h:q<s.size)(b:s[q].toNat=35):Py.rd (f+1) false d (L s p)=Py.truth (L s (q+1)):=by
 rw[Py.rd,a,qgq s q h];simp only;rw[if_neg (by omega),if_neg (by omega),if_neg (by omega),if_pos b]
theorem qvu(f d:Nat)(s:BA)(p q:Nat)(a:Px.skip false (L s p)=L s q)(h:q<s.size)(b:s[q].toNat≠40)(c:s[q].toNat≠39)(e:s[q].toNat≠34)(g:s[q].toNat≠35)(i:Px.wordB s[q]=true):Py.rd (f+1) false d (L s p)=Py.word (L s q):=by
 rw[Py.rd,a,qgq s q h];simp only;rw[if_neg b,if_neg c,if_neg e,if_neg g,if_pos i]
theorem qzo(f d:Nat)(s:BA)(p q:Nat)(a:Px.skip false (L s p)=L s q)(h:q<s.size)(b:s[q].toNat≠40)(c:s[q].toNat≠39)(g:s[q].toNat≠34)(i:s[q].toNat≠35)(j:Px.wordB s[q]=false):Py.rd (f+1) false d (L s p)=.inl (2,s.size-q):=by
 rw[Py.rd,a,qgq s q h];simp only;rw[if_neg b,if_neg c,if_neg g,if_neg i,if_neg (by simp[j])];have e:(L s (q+1)).length+1=s.size-q:=by rw[qc6];omega
 rw[e]
structure At (b:Nat) (s:BA) (q d:Nat) (w w1:Wd):Prop where
 rd:Rd b s q d w1
 only:Only b w w1
 box:Box w.heap.size w1
 lt:w.heap.size<w1.heap.size
theorem qgk(s:BA)(p q:Nat)(b:p<=s.size)(c:q<=s.size)(h:L s p=L s q):p=q:=by
 have a:=congrArg List.length h;rw[qc6,qc6]at a;omega
theorem qht(b:Nat)(s:BA)(p q d:Nat)(r:Py.R)(w:Wd)(h:Rd b s p d w)(O:p<=s.size)(P:s.size<=1200)(Q:GV w)(A:6<=b)(S:Px.skip false (L s p)=L s q)(a0:q<s.size)
  (a1:((s[q].toNat:Int)==40)=true)
  (T:∀w,Rd b s q d w->GV w->Calls prog 148 #[.pointer (some ⟨b,0,none⟩),.func (.func 149) #[.pointer (some ⟨b,0,none⟩)] #[]] w λe w'=>Res b s d r w e w'):
  Calls prog 88 #[.pointer (some ⟨b,0,none⟩)] w λe w'=>Res b s d r w e w':=by
 have U:=h.lt;have V:=hZ h;have W:=hZ Q;have X:=hZ S;have Y:=hZ T;clear h Q S T;rcases r with⟨c,k⟩|⟨ts,rr⟩
 ·
  go_enter func88,ntmps88
  go_wp2_with (go_at_call 86;refine(qbc b s p d _ (V.out.alloc _) O P).mono ?_;rintro e w1 ⟨rfl,j,B,o,g,a,f⟩;refine Hid.out ?_)
  obtain rfl:j=q:=qgk s j q o (by omega) (g.symm.trans X.out);have u:At b s j d w w1:=⟨a,((Only.refl b w).alloc _).trans f,(Box.new w _ _ _ _ _ _).kept f (by intro e;cases e;omega) (by simp),by have:=f.size;simp at this;omega⟩;have l:=hZ u;have H:=a.c0;have I:=a.c1;have i:=u.lt;clear g a f u;have hd:((j:Int)==(s.size:Int))=false:=by simp;omega
  refine hZ ?_;go_wp2_with (go_at_call 87;refine(qai b s j d _ l.out.rd).mono ?_;rintro e w' ⟨rfl,n1,rfl⟩)
  go_quiet (fail)
  go_wp2_with (first|(go_at_call 148;refine(Y.out _ (by exact l.out.rd.drewN _) (by exact W.out.only (l.out.only.drewN _) A (by omega))).mono ?_;rintro e w2 ⟨m,N,rfl,C,Z,p',D⟩;refine Hid.out ?_))
  have J:w1.heap.size<=w2.heap.size:=by have:=m.size;simpa using this
  have y:=hZ ((l.out.only.drewN _).trans m);have z:=hZ D;have a2:w.heap.size+1<=N:=by simp at C;omega
  have HN:=hZ Z;obtain⟨⟨y0,k0⟩,⟨y1,k1⟩,⟨y2,k2⟩,⟨y3,k3⟩,⟨y4,k4⟩,⟨y5,k5⟩,kf⟩:=(l.out.box.drewN _).kept m (by intro e;cases e;omega) (by simpa using i);clear m Z C D;refine hZ ?_;go_wp2;refine bodyPost_ret (v:=.tuple #[El.nil.v,.pointer (some ⟨N,0,none⟩)]) (by simp[results,results88,go_sem, *]) rfl ?_;exact Res.err y.out (eR _) (by omega) (by omega) HN.out rfl rfl z.out U _ _ _ _ _ _
 ·
  go_enter func88,ntmps88
  go_wp2_with (go_at_call 86;refine(qbc b s p d _ (V.out.alloc _) O P).mono ?_;rintro e w1 ⟨rfl,j,B,o,g,a,f⟩;refine Hid.out ?_)
  obtain rfl:j=q:=qgk s j q o (by omega) (g.symm.trans X.out);have u:At b s j d w w1:=⟨a,((Only.refl b w).alloc _).trans f,(Box.new w _ _ _ _ _ _).kept f (by intro e;cases e;omega) (by simp),by have:=f.size;simp at this;omega⟩;have l:=hZ u;have H:=a.c0;have I:=a.c1;have i:=u.lt;clear g a f u;have hd:((j:Int)==(s.size:Int))=false:=by simp;omega
  refine hZ ?_;go_wp2_with (go_at_call 87;refine(qai b s j d _ l.out.rd).mono ?_;rintro e w' ⟨rfl,n1,rfl⟩)
  go_quiet (fail)
  go_wp2_with (first|(go_at_call 148;refine(Y.out _ (by exact l.out.rd.drewN _) (by exact W.out.only (l.out.only.drewN _) A (by omega))).mono ?_;rintro e w2 ⟨m,x,t,rfl,rfl,n,E⟩;refine Hid.out ?_))
  have J:w1.heap.size<=w2.heap.size:=by have:=m.size;simpa using this
  have y:=hZ ((l.out.only.drewN _).trans m);have z:=hZ E;have HRep:=hZ n;obtain⟨⟨y0,k0⟩,⟨y1,k1⟩,⟨y2,k2⟩,⟨y3,k3⟩,⟨y4,k4⟩,⟨y5,k5⟩,kf⟩:=(l.out.box.drewN _).kept m (by intro e;cases e;omega) (by simpa using i);clear m n E;obtain⟨xk,xn,K,M,xm,xa,F,G⟩:=x;refine hZ ?_;go_wp2;refine bodyPost_ret (v:=.tuple #[El.v ⟨xk,xn,K,M,xm,xa,F,G⟩,.pointer none]) (by simp[results,results88,go_sem, *]) rfl ?_;exact Res.ok y.out (eR _) (by simpa using i) U HRep.out z.out rfl _ _ _ _ _ _
theorem qhs(b:Nat)(s:BA)(p q d:Nat)(r:Py.R)(w:Wd)(h:Rd b s p d w)(O:p<=s.size)(P:s.size<=1200)(Q:GV w)(A:6<=b)(S:Px.skip false (L s p)=L s q)(a0:q<s.size)
  (a1:((s[q].toNat:Int)==40)=false)(a2:((s[q].toNat:Int)==39)=true)
  (T:∀w,Rd b s q d w->GV w->Calls prog 148 #[.pointer (some ⟨b,0,none⟩),.func (.func 150) #[.pointer (some ⟨b,0,none⟩)] #[]] w λe w'=>Res b s d r w e w'):
  Calls prog 88 #[.pointer (some ⟨b,0,none⟩)] w λe w'=>Res b s d r w e w':=by
 have U:=h.lt;have V:=hZ h;have W:=hZ Q;have X:=hZ S;have Y:=hZ T;clear h Q S T;rcases r with⟨c,k⟩|⟨ts,rr⟩
 ·
  go_enter func88,ntmps88
  go_wp2_with (go_at_call 86;refine(qbc b s p d _ (V.out.alloc _) O P).mono ?_;rintro e w1 ⟨rfl,j,B,o,g,a,f⟩;refine Hid.out ?_)
  obtain rfl:j=q:=qgk s j q o (by omega) (g.symm.trans X.out);have u:At b s j d w w1:=⟨a,((Only.refl b w).alloc _).trans f,(Box.new w _ _ _ _ _ _).kept f (by intro e;cases e;omega) (by simp),by have:=f.size;simp at this;omega⟩;have l:=hZ u;have H:=a.c0;have I:=a.c1;have i:=u.lt;clear g a f u;have hd:((j:Int)==(s.size:Int))=false:=by simp;omega
  refine hZ ?_;go_wp2_with (go_at_call 87;refine(qai b s j d _ l.out.rd).mono ?_;rintro e w' ⟨rfl,n1,rfl⟩)
  go_quiet (fail)
  go_wp2_with (first|(go_at_call 148;refine(Y.out _ (by exact l.out.rd.drewN _) (by exact W.out.only (l.out.only.drewN _) A (by omega))).mono ?_;rintro e w2 ⟨m,N,rfl,C,Z,p',D⟩;refine Hid.out ?_))
  have J:w1.heap.size<=w2.heap.size:=by have:=m.size;simpa using this
  have y:=hZ ((l.out.only.drewN _).trans m);have z:=hZ D;have a3:w.heap.size+1<=N:=by simp at C;omega
  have HN:=hZ Z;obtain⟨⟨y0,k0⟩,⟨y1,k1⟩,⟨y2,k2⟩,⟨y3,k3⟩,⟨y4,k4⟩,⟨y5,k5⟩,kf⟩:=(l.out.box.drewN _).kept m (by intro e;cases e;omega) (by simpa using i);clear m Z C D;refine hZ ?_;go_wp2;refine bodyPost_ret (v:=.tuple #[El.nil.v,.pointer (some ⟨N,0,none⟩)]) (by simp[results,results88,go_sem, *]) rfl ?_;exact Res.err y.out (eR _) (by omega) (by omega) HN.out rfl rfl z.out U _ _ _ _ _ _
 ·
  go_enter func88,ntmps88
  go_wp2_with (go_at_call 86;refine(qbc b s p d _ (V.out.alloc _) O P).mono ?_;rintro e w1 ⟨rfl,j,B,o,g,a,f⟩;refine Hid.out ?_)
  obtain rfl:j=q:=qgk s j q o (by omega) (g.symm.trans X.out);have u:At b s j d w w1:=⟨a,((Only.refl b w).alloc _).trans f,(Box.new w _ _ _ _ _ _).kept f (by intro e;cases e;omega) (by simp),by have:=f.size;simp at this;omega⟩;have l:=hZ u;have H:=a.c0;have I:=a.c1;have i:=u.lt;clear g a f u;have hd:((j:Int)==(s.size:Int))=false:=by simp;omega
  refine hZ ?_;go_wp2_with (go_at_call 87;refine(qai b s j d _ l.out.rd).mono ?_;rintro e w' ⟨rfl,n1,rfl⟩)
  go_quiet (fail)
  go_wp2_with (first|(go_at_call 148;refine(Y.out _ (by exact l.out.rd.drewN _) (by exact W.out.only (l.out.only.drewN _) A (by omega))).mono ?_;rintro e w2 ⟨m,x,t,rfl,rfl,n,E⟩;refine Hid.out ?_))
  have J:w1.heap.size<=w2.heap.size:=by have:=m.size;simpa using this
  have y:=hZ ((l.out.only.drewN _).trans m);have z:=hZ E;have HRep:=hZ n;obtain⟨⟨y0,k0⟩,⟨y1,k1⟩,⟨y2,k2⟩,⟨y3,k3⟩,⟨y4,k4⟩,⟨y5,k5⟩,kf⟩:=(l.out.box.drewN _).kept m (by intro e;cases e;omega) (by simpa using i);clear m n E;obtain⟨xk,xn,K,M,xm,xa,F,G⟩:=x;refine hZ ?_;go_wp2;refine bodyPost_ret (v:=.tuple #[El.v ⟨xk,xn,K,M,xm,xa,F,G⟩,.pointer none]) (by simp[results,results88,go_sem, *]) rfl ?_;exact Res.ok y.out (eR _) (by simpa using i) U HRep.out z.out rfl _ _ _ _ _ _
theorem qt6(b:Nat)(s:BA)(p q d:Nat)(r:Py.R)(w:Wd)(h:Rd b s p d w)(O:p<=s.size)(P:s.size<=1200)(Q:GV w)(A:6<=b)(S:Px.skip false (L s p)=L s q)(a0:q<s.size)
  (a1:((s[q].toNat:Int)==40)=false)(a2:((s[q].toNat:Int)==39)=false)(a3:((s[q].toNat:Int)==34)=true)
  (T:∀w,Rd b s q d w->GV w->Calls prog 151 #[.pointer (some ⟨b,0,none⟩)] w λe w'=>Res b s d r w e w'):
  Calls prog 88 #[.pointer (some ⟨b,0,none⟩)] w λe w'=>Res b s d r w e w':=by
 have U:=h.lt;have V:=hZ h;have W:=hZ Q;have X:=hZ S;have Y:=hZ T;clear h Q S T;rcases r with⟨c,k⟩|⟨ts,rr⟩
 ·
  go_enter func88,ntmps88
  go_wp2_with (go_at_call 86;refine(qbc b s p d _ (V.out.alloc _) O P).mono ?_;rintro e w1 ⟨rfl,j,B,o,g,a,f⟩;refine Hid.out ?_)
  obtain rfl:j=q:=qgk s j q o (by omega) (g.symm.trans X.out);have u:At b s j d w w1:=⟨a,((Only.refl b w).alloc _).trans f,(Box.new w _ _ _ _ _ _).kept f (by intro e;cases e;omega) (by simp),by have:=f.size;simp at this;omega⟩;have l:=hZ u;have H:=a.c0;have I:=a.c1;have i:=u.lt;clear g a f u;have hd:((j:Int)==(s.size:Int))=false:=by simp;omega
  refine hZ ?_;go_wp2_with (go_at_call 87;refine(qai b s j d _ l.out.rd).mono ?_;rintro e w' ⟨rfl,n1,rfl⟩)
  go_quiet (fail)
  go_wp2_with (first|(go_at_call 151;refine(Y.out _ (by exact l.out.rd.drewN _) (by exact W.out.only (l.out.only.drewN _) A (by omega))).mono ?_;rintro e w2 ⟨m,N,rfl,C,Z,p',D⟩;refine Hid.out ?_))
  have J:w1.heap.size<=w2.heap.size:=by have:=m.size;simpa using this
  have y:=hZ ((l.out.only.drewN _).trans m);have z:=hZ D;have a4:w.heap.size+1<=N:=by simp at C;omega
  have HN:=hZ Z;obtain⟨⟨y0,k0⟩,⟨y1,k1⟩,⟨y2,k2⟩,⟨y3,k3⟩,⟨y4,k4⟩,⟨y5,k5⟩,kf⟩:=(l.out.box.drewN _).kept m (by intro e;cases e;omega) (by simpa using i);clear m Z C D;refine hZ ?_;go_wp2;refine bodyPost_ret (v:=.tuple #[El.nil.v,.pointer (some ⟨N,0,none⟩)]) (by simp[results,results88,go_sem, *]) rfl ?_;exact Res.err y.out (eR _) (by omega) (by omega) HN.out rfl rfl z.out U _ _ _ _ _ _
 ·
  go_enter func88,ntmps88
  go_wp2_with (go_at_call 86;refine(qbc b s p d _ (V.out.alloc _) O P).mono ?_;rintro e w1 ⟨rfl,j,B,o,g,a,f⟩;refine Hid.out ?_)
  obtain rfl:j=q:=qgk s j q o (by omega) (g.symm.trans X.out);have u:At b s j d w w1:=⟨a,((Only.refl b w).alloc _).trans f,(Box.new w _ _ _ _ _ _).kept f (by intro e;cases e;omega) (by simp),by have:=f.size;simp at this;omega⟩;have l:=hZ u;have H:=a.c0;have I:=a.c1;have i:=u.lt;clear g a f u;have hd:((j:Int)==(s.size:Int))=false:=by simp;omega
  refine hZ ?_;go_wp2_with (go_at_call 87;refine(qai b s j d _ l.out.rd).mono ?_;rintro e w' ⟨rfl,n1,rfl⟩)
  go_quiet (fail)
  go_wp2_with (first|(go_at_call 151;refine(Y.out _ (by exact l.out.rd.drewN _) (by exact W.out.only (l.out.only.drewN _) A (by omega))).mono ?_;rintro e w2 ⟨m,x,t,rfl,rfl,n,E⟩;refine Hid.out ?_))
  have J:w1.heap.size<=w2.heap.size:=by have:=m.size;simpa using this
  have y:=hZ ((l.out.only.drewN _).trans m);have z:=hZ E;have HRep:=hZ n;obtain⟨⟨y0,k0⟩,⟨y1,k1⟩,⟨y2,k2⟩,⟨y3,k3⟩,⟨y4,k4⟩,⟨y5,k5⟩,kf⟩:=(l.out.box.drewN _).kept m (by intro e;cases e;omega) (by simpa using i);clear m n E;obtain⟨xk,xn,K,M,xm,xa,F,G⟩:=x;refine hZ ?_;go_wp2;refine bodyPost_ret (v:=.tuple #[El.v ⟨xk,xn,K,M,xm,xa,F,G⟩,.pointer none]) (by simp[results,results88,go_sem, *]) rfl ?_;exact Res.ok y.out (eR _) (by simpa using i) U HRep.out z.out rfl _ _ _ _ _ _
theorem qng(b:Nat)(s:BA)(p q d:Nat)(r:Py.R)(w:Wd)(h:Rd b s p d w)(O:p<=s.size)(P:s.size<=1200)(Q:GV w)(A:6<=b)(S:Px.skip false (L s p)=L s q)(a0:q<s.size)
  (a1:((s[q].toNat:Int)==40)=false)(a2:((s[q].toNat:Int)==39)=false)(a3:((s[q].toNat:Int)==34)=false)(a4:((s[q].toNat:Int)==35)=true)
  (T:∀w,Rd b s q d w->GV w->Calls prog 152 #[.pointer (some ⟨b,0,none⟩)] w λe w'=>Res b s d r w e w'):
  Calls prog 88 #[.pointer (some ⟨b,0,none⟩)] w λe w'=>Res b s d r w e w':=by
 have U:=h.lt;have V:=hZ h;have W:=hZ Q;have X:=hZ S;have Y:=hZ T;clear h Q S T;rcases r with⟨c,k⟩|⟨ts,rr⟩
 ·
  go_enter func88,ntmps88
  go_wp2_with (go_at_call 86;refine(qbc b s p d _ (V.out.alloc _) O P).mono ?_;rintro e w1 ⟨rfl,j,B,o,g,a,f⟩;refine Hid.out ?_)
  obtain rfl:j=q:=qgk s j q o (by omega) (g.symm.trans X.out);have u:At b s j d w w1:=⟨a,((Only.refl b w).alloc _).trans f,(Box.new w _ _ _ _ _ _).kept f (by intro e;cases e;omega) (by simp),by have:=f.size;simp at this;omega⟩;have l:=hZ u;have H:=a.c0;have I:=a.c1;have i:=u.lt;clear g a f u;have hd:((j:Int)==(s.size:Int))=false:=by simp;omega
  refine hZ ?_;go_wp2_with (go_at_call 87;refine(qai b s j d _ l.out.rd).mono ?_;rintro e w' ⟨rfl,n1,rfl⟩)
  go_quiet (fail)
  go_wp2_with (first|(go_at_call 152;refine(Y.out _ (by exact l.out.rd.drewN _) (by exact W.out.only (l.out.only.drewN _) A (by omega))).mono ?_;rintro e w2 ⟨m,N,rfl,C,Z,p',D⟩;refine Hid.out ?_))
  have J:w1.heap.size<=w2.heap.size:=by have:=m.size;simpa using this
  have y:=hZ ((l.out.only.drewN _).trans m);have z:=hZ D;have a5:w.heap.size+1<=N:=by simp at C;omega
  have HN:=hZ Z;obtain⟨⟨y0,k0⟩,⟨y1,k1⟩,⟨y2,k2⟩,⟨y3,k3⟩,⟨y4,k4⟩,⟨y5,k5⟩,kf⟩:=(l.out.box.drewN _).kept m (by intro e;cases e;omega) (by simpa using i);clear m Z C D;refine hZ ?_;go_wp2;refine bodyPost_ret (v:=.tuple #[El.nil.v,.pointer (some ⟨N,0,none⟩)]) (by simp[results,results88,go_sem, *]) rfl ?_;exact Res.err y.out (eR _) (by omega) (by omega) HN.out rfl rfl z.out U _ _ _ _ _ _
 ·
  go_enter func88,ntmps88
  go_wp2_with (go_at_call 86;refine(qbc b s p d _ (V.out.alloc _) O P).mono ?_;rintro e w1 ⟨rfl,j,B,o,g,a,f⟩;refine Hid.out ?_)
  obtain rfl:j=q:=qgk s j q o (by omega) (g.symm.trans X.out);have u:At b s j d w w1:=⟨a,((Only.refl b w).alloc _).trans f,(Box.new w _ _ _ _ _ _).kept f (by intro e;cases e;omega) (by simp),by have:=f.size;simp at this;omega⟩;have l:=hZ u;have H:=a.c0;have I:=a.c1;have i:=u.lt;clear g a f u;have hd:((j:Int)==(s.size:Int))=false:=by simp;omega
  refine hZ ?_;go_wp2_with (go_at_call 87;refine(qai b s j d _ l.out.rd).mono ?_;rintro e w' ⟨rfl,n1,rfl⟩)
  go_quiet (fail)
  go_wp2_with (first|(go_at_call 152;refine(Y.out _ (by exact l.out.rd.drewN _) (by exact W.out.only (l.out.only.drewN _) A (by omega))).mono ?_;rintro e w2 ⟨m,x,t,rfl,rfl,n,E⟩;refine Hid.out ?_))
  have J:w1.heap.size<=w2.heap.size:=by have:=m.size;simpa using this
  have y:=hZ ((l.out.only.drewN _).trans m);have z:=hZ E;have HRep:=hZ n;obtain⟨⟨y0,k0⟩,⟨y1,k1⟩,⟨y2,k2⟩,⟨y3,k3⟩,⟨y4,k4⟩,⟨y5,k5⟩,kf⟩:=(l.out.box.drewN _).kept m (by intro e;cases e;omega) (by simpa using i);clear m n E;obtain⟨xk,xn,K,M,xm,xa,F,G⟩:=x;refine hZ ?_;go_wp2;refine bodyPost_ret (v:=.tuple #[El.v ⟨xk,xn,K,M,xm,xa,F,G⟩,.pointer none]) (by simp[results,results88,go_sem, *]) rfl ?_;exact Res.ok y.out (eR _) (by simpa using i) U HRep.out z.out rfl _ _ _ _ _ _
theorem qqw(b:Nat)(s:BA)(p q d:Nat)(r:Py.R)(w:Wd)(h:Rd b s p d w)(O:p<=s.size)(P:s.size<=1200)(Q:GV w)(A:6<=b)(S:Px.skip false (L s p)=L s q)(a0:q<s.size)
  (a1:((s[q].toNat:Int)==40)=false)(a2:((s[q].toNat:Int)==39)=false)(a3:((s[q].toNat:Int)==34)=false)(a4:((s[q].toNat:Int)==35)=false)(hw:Px.wordB s[q]=true)
  (T:∀w,Rd b s q d w->GV w->Calls prog 154 #[.pointer (some ⟨b,0,none⟩)] w λe w'=>Res b s d r w e w'):
  Calls prog 88 #[.pointer (some ⟨b,0,none⟩)] w λe w'=>Res b s d r w e w':=by
 have U:=h.lt;have V:=hZ h;have W:=hZ Q;have X:=hZ S;have Y:=hZ T;clear h Q S T;rcases r with⟨c,k⟩|⟨ts,rr⟩
 ·
  go_enter func88,ntmps88
  go_wp2_with (go_at_call 86;refine(qbc b s p d _ (V.out.alloc _) O P).mono ?_;rintro e w1 ⟨rfl,j,B,o,g,a,f⟩;refine Hid.out ?_)
  obtain rfl:j=q:=qgk s j q o (by omega) (g.symm.trans X.out);have u:At b s j d w w1:=⟨a,((Only.refl b w).alloc _).trans f,(Box.new w _ _ _ _ _ _).kept f (by intro e;cases e;omega) (by simp),by have:=f.size;simp at this;omega⟩;have l:=hZ u;have H:=a.c0;have I:=a.c1;have i:=u.lt;clear g a f u;have hd:((j:Int)==(s.size:Int))=false:=by simp;omega
  refine hZ ?_;go_wp2_with (go_at_call 87;refine(qai b s j d _ l.out.rd).mono ?_;rintro e w' ⟨rfl,n1,rfl⟩)
  go_quiet (fail)
  go_wp2_with (first|(go_at_call 153;refine(qba _ _).mono ?_;rintro e w' ⟨rfl,rfl⟩)|(go_at_call 154;refine(Y.out _ (by exact l.out.rd.drewN _) (by exact W.out.only (l.out.only.drewN _) A (by omega))).mono ?_;rintro e w2 ⟨m,N,rfl,C,Z,p',D⟩;refine Hid.out ?_))
  have J:w1.heap.size<=w2.heap.size:=by have:=m.size;simpa using this
  have y:=hZ ((l.out.only.drewN _).trans m);have z:=hZ D;have a5:w.heap.size+1<=N:=by simp at C;omega
  have HN:=hZ Z;obtain⟨⟨y0,k0⟩,⟨y1,k1⟩,⟨y2,k2⟩,⟨y3,k3⟩,⟨y4,k4⟩,⟨y5,k5⟩,kf⟩:=(l.out.box.drewN _).kept m (by intro e;cases e;omega) (by simpa using i);clear m Z C D;refine hZ ?_;go_wp2;refine bodyPost_ret (v:=.tuple #[El.nil.v,.pointer (some ⟨N,0,none⟩)]) (by simp[results,results88,go_sem, *]) rfl ?_;exact Res.err y.out (eR _) (by omega) (by omega) HN.out rfl rfl z.out U _ _ _ _ _ _
 ·
  go_enter func88,ntmps88
  go_wp2_with (go_at_call 86;refine(qbc b s p d _ (V.out.alloc _) O P).mono ?_;rintro e w1 ⟨rfl,j,B,o,g,a,f⟩;refine Hid.out ?_)
  obtain rfl:j=q:=qgk s j q o (by omega) (g.symm.trans X.out);have u:At b s j d w w1:=⟨a,((Only.refl b w).alloc _).trans f,(Box.new w _ _ _ _ _ _).kept f (by intro e;cases e;omega) (by simp),by have:=f.size;simp at this;omega⟩;have l:=hZ u;have H:=a.c0;have I:=a.c1;have i:=u.lt;clear g a f u;have hd:((j:Int)==(s.size:Int))=false:=by simp;omega
  refine hZ ?_;go_wp2_with (go_at_call 87;refine(qai b s j d _ l.out.rd).mono ?_;rintro e w' ⟨rfl,n1,rfl⟩)
  go_quiet (fail)
  go_wp2_with (first|(go_at_call 153;refine(qba _ _).mono ?_;rintro e w' ⟨rfl,rfl⟩)|(go_at_call 154;refine(Y.out _ (by exact l.out.rd.drewN _) (by exact W.out.only (l.out.only.drewN _) A (by omega))).mono ?_;rintro e w2 ⟨m,x,t,rfl,rfl,n,E⟩;refine Hid.out ?_))
  have J:w1.heap.size<=w2.heap.size:=by have:=m.size;simpa using this
  have y:=hZ ((l.out.only.drewN _).trans m);have z:=hZ E;have HRep:=hZ n;obtain⟨⟨y0,k0⟩,⟨y1,k1⟩,⟨y2,k2⟩,⟨y3,k3⟩,⟨y4,k4⟩,⟨y5,k5⟩,kf⟩:=(l.out.box.drewN _).kept m (by intro e;cases e;omega) (by simpa using i);clear m n E;obtain⟨xk,xn,K,M,xm,xa,F,G⟩:=x;refine hZ ?_;go_wp2;refine bodyPost_ret (v:=.tuple #[El.v ⟨xk,xn,K,M,xm,xa,F,G⟩,.pointer none]) (by simp[results,results88,go_sem, *]) rfl ?_;exact Res.ok y.out (eR _) (by simpa using i) U HRep.out z.out rfl _ _ _ _ _ _
theorem qt7(b:Nat)(s:BA)(p q d:Nat)(w:Wd)(h:Rd b s p d w)(B:p<=s.size)(C:s.size<=1200)(u:Px.skip false (L s p)=L s q)(x:q=s.size):
  Calls prog 88 #[.pointer (some ⟨b,0,none⟩)] w λe w'=>Res b s d (.inl (3,0)) w e w':=by
 have K:=h.lt;have D:=hZ h;have E:=hZ u;clear h u;go_enter func88,ntmps88
 go_wp2_with (go_at_call 86;refine(qbc b s p d _ (D.out.alloc _) B C).mono ?_;rintro e w1 ⟨rfl,i,y,m,g,a,c⟩;refine Hid.out ?_)
 obtain rfl:i=q:=qgk s i q m (by omega) (g.symm.trans E.out);have n:At b s i d w w1:=⟨a,((Only.refl b w).alloc _).trans c,(Box.new w _ _ _ _ _ _).kept c (by intro e;cases e;omega) (by simp),by have:=c.size;simp at this;omega⟩;have l:=hZ n;have F:=a.c0;have G:=a.c1;have z:=n.lt;clear g a c n;have M:((i:Int)==(s.size:Int))=true:=by simp;omega
 have H:=hZ x;clear x;refine hZ ?_;go_wp2_with (first|(go_at_call 87;refine(qai b s i d _ l.out.rd).mono ?_;rintro e w' ⟨rfl,O,rfl⟩)|(go_at_call 147;refine(qbn _ _ _).mono ?_;rintro e w' ⟨N,rfl,A,j,f⟩;refine Hid.out ?_))
 have k:Only b w w':=Only.of (l.out.only.drewN _) f;have o:=hZ ((l.out.rd.drewN _).below f (by first|omega|(simp;done)|(simp;omega)));have I:Box w.heap.size w':=(l.out.box.drewN _).below f (by first|omega|(simp;done)|(simp;omega));have J:w.heap.size+1<=N:=by first|omega|(simp at A;omega)
 obtain⟨⟨P,Q⟩,⟨R,S⟩,⟨T,U⟩,⟨V,W⟩,⟨X,Y⟩,⟨Z,k5⟩,kf⟩:=I;have r:=hZ j;have t:=hZ k;clear A j f k;refine hZ ?_;go_wp2;refine bodyPost_ret (v:=.tuple #[El.nil.v,.pointer (some ⟨N,0,none⟩)]) (by simp[results,results88,go_sem, *]) rfl ?_;exact Res.err t.out (eR _) (by omega) (by omega) r.out rfl (by have:=H.out;simp;omega) o.out (by omega) _ _ _ _ _ _
theorem qt8(b:Nat)(s:BA)(p q d:Nat)(w:Wd)(h:Rd b s p d w)(A:p<=s.size)(B:s.size<=1200)(x:Px.skip false (L s p)=L s q)(C:q<s.size)
  (D:((s[q].toNat:Int)==40)=false)(E:((s[q].toNat:Int)==39)=false)(F:((s[q].toNat:Int)==34)=false)(G:((s[q].toNat:Int)==35)=false)(P:Px.wordB s[q]=false):
  Calls prog 88 #[.pointer (some ⟨b,0,none⟩)] w λe w'=>Res b s d (.inl (2,s.size-q)) w e w':=by
 have Q:=h.lt;have H:=hZ h;have I:=hZ x;clear h x;go_enter func88,ntmps88
 go_wp2_with (go_at_call 86;refine(qbc b s p d _ (H.out.alloc _) A B).mono ?_;rintro e w1 ⟨rfl,j,y,m,g,c,f⟩;refine Hid.out ?_)
 obtain rfl:j=q:=qgk s j q m (by omega) (g.symm.trans I.out);have n:At b s j d w w1:=⟨c,((Only.refl b w).alloc _).trans f,(Box.new w _ _ _ _ _ _).kept f (by intro e;cases e;omega) (by simp),by have:=f.size;simp at this;omega⟩;have l:=hZ n;have J:=c.c0;have K:=c.c1;have z:=n.lt;clear g c f n;have R:((j:Int)==(s.size:Int))=false:=by simp;omega
 refine hZ ?_;go_wp2_with (first|(go_at_call 87;refine(qai b s j d _ l.out.rd).mono ?_;rintro e w' ⟨rfl,S,rfl⟩)|(go_at_call 153;refine(qba _ _).mono ?_;rintro e w' ⟨rfl,rfl⟩)|(go_at_call 147;refine(qbn _ _ _).mono ?_;rintro e w' ⟨N,rfl,o,i,a⟩;refine Hid.out ?_))
 go_quiet (fail)
 go_wp2_with (first|(go_at_call 153;refine(qba _ _).mono ?_;rintro e w' ⟨rfl,rfl⟩)|(go_at_call 147;refine(qbn _ _ _).mono ?_;rintro e w' ⟨N,rfl,o,i,a⟩;refine Hid.out ?_))
 have k:Only b w w':=Only.of (l.out.only.drewN _) a;have r:=hZ ((l.out.rd.drewN _).below a (by first|omega|(simp;done)|(simp;omega)));have M:Box w.heap.size w':=(l.out.box.drewN _).below a (by first|omega|(simp;done)|(simp;omega));have O:w.heap.size+1<=N:=by first|omega|(simp at o;omega)
 obtain⟨⟨T,U⟩,⟨V,W⟩,⟨X,Y⟩,⟨Z,k3⟩,⟨y4,k4⟩,⟨y5,k5⟩,kf⟩:=M;have t:=hZ i;have u:=hZ k;clear o i a k;refine hZ ?_;go_wp2;refine bodyPost_ret (v:=.tuple #[El.nil.v,.pointer (some ⟨N,0,none⟩)]) (by simp[results,results88,go_sem, *]) rfl ?_;exact Res.err u.out (eR _) (by omega) (by omega) t.out rfl (by omega) r.out (by omega) _ _ _ _ _ _
theorem qt9:∀F:Nat,ql0 F:=by
 intro F;induction F using Nat.strongRecOn with
 |ind F x=>
  intro b s p d w h k e j l c hF;obtain⟨f,rfl⟩:∃f,F=f+1:=⟨F-1,by omega⟩;obtain⟨q,y,I,g⟩:∃q,p<=q/\q<=s.size/\Px.skip false (L s p)=L s q:=by
   have n:=Px.skip_suf (L s p) false;refine⟨s.size-(Px.skip false (L s p)).length,?_,by omega,(q1i s p _ n).symm⟩;have:=n.length_le;rw[qc6]at this;omega
  by_cases a:q<s.size
  ·cases c40:((s[q].toNat:Int)==40)
   ·cases c39:((s[q].toNat:Int)==39)
    ·cases c34:((s[q].toNat:Int)==34)
     ·cases c35:((s[q].toNat:Int)==35)
      ·have z:=beq_eq_false_iff_ne.1 c40;have A:=beq_eq_false_iff_ne.1 c39;have B:=beq_eq_false_iff_ne.1 c34;have C:=beq_eq_false_iff_ne.1 c35;cases hw:Px.wordB s[q]
       ·rw[qzo f d s p q g a (by omega) (by omega) (by omega) (by omega) hw];exact qt8 b s p q d w h k e g a c40 c39 c34 c35 hw
       ·rw[qvu f d s p q g a (by omega) (by omega) (by omega) (by omega) hw];exact qqw b s p q d _ w h k e l c g a c40 c39 c34 c35 hw (λw0 i o=>quy b s q d w0 i a e j o c)
      ·rw[qr8 f d s p q g a (by have:=beq_iff_eq.1 c35;omega)];exact qng b s p q d _ w h k e l c g a c40 c39 c34 c35 (λw0 i _=>qri b s q d w0 i a e j)
     ·rw[qzm f d s p q g a (by have:=beq_iff_eq.1 c34;omega)];exact qt6 b s p q d _ w h k e l c g a c40 c39 c34 (λw0 i _=>qpi b s q d w0 i a e j)
    ·have r:s[q].toNat=39:=by have:=beq_iff_eq.1 c39;omega
     by_cases m:d=30
     ·rw[qoc f d s p q g a (.inr r) m];exact qhs b s p q d _ w h k e l c g a c40 c39 (λw0 i _=>qjg b s q d w0 i a e m)
     ·rw[qr9 f d s p q g a r m];exact qhs b s p q d _ w h k e l c g a c40 c39 (λw0 i o=>qmo b s q d _ w0 i a e (by omega) o c (λw2 u v=>qpt b s (q+1) (d+1) _ w2 u (by omega) v c (λw3 D E=>x f (by omega) b s (q+1) (d+1) w3 D (by omega) e (by omega) E c (by omega))))
   ·have t:s[q].toNat=40:=by have:=beq_iff_eq.1 c40;omega
    by_cases m:d=30
    ·rw[qoc f d s p q g a (.inl t) m];exact qht b s p q d _ w h k e l c g a c40 (λw0 i _=>qjh b s q d w0 i a e m)
    ·rw[qvv f d s p q g a t m];exact qht b s p q d _ w h k e l c g a c40 (λw0 i o=>qmp b s q d _ w0 i a e (by omega) o c (λw2 u v=>list_any f b s (q+1) (d+1) w2 u (by omega) e (by omega) v c (by omega) (λG H=>x G (by omega))))
  ·rw[qzn f d s p q g (by omega)];exact qt7 b s p q d w h k e g (by omega)
end Rd
end
section
namespace Rd
open Go.RowKit
theorem qyo(f:Nat)(l:List UInt8)(h:l=[]):Py.topP (f+1) l=.inr ([],[]):=by subst h;rfl
theorem qyp(f:Nat)(l:List UInt8)(a:Px.skip false l=l)(hne:l≠[])(e:Nat×Nat)(h:Py.rd f false 0 l=.inl e):Py.topP (f+1) l=.inl e:=by
 rw[Py.topP,a];cases l with
 |nil=>exact absurd rfl hne
 |cons c r=>simp only;rw[h]
theorem qny(f:Nat)(l:List UInt8):Py.topP f (Px.skip false l)=Py.topP f l:=by
 cases f with
 |zero=>rfl
 |succ f=>rw[Py.topP,Py.topP,Px.skip_idem]
theorem qu4(f:Nat)(l:List UInt8)(b:Px.skip false l=l)(hne:l≠[])(x:List Dt)(a:List UInt8)(h:Py.rd f false 0 l=.inr (x,a)):Py.topP (f+1) l=Py.preP (x.map (λt=>(t,l.length))) (Py.topP f (Px.skip false a)):=by
 rw[qny,Py.topP,b];cases l with
 |nil=>exact absurd rfl hne
 |cons c r=>
  simp only;rw[h];simp only;rcases Py.topP f a with e|⟨xs,rr⟩ <;> rfl
def Fe.cells(x:El×Int):List Vu:=x.1.cells++[.int .i64 x.2]
theorem qsl{v:Vu}(h:w.ownsRow lo 136 7 v n xs):∃a cap,v=.slice a n cap:=by
 rcases h.2 with⟨b,c⟩|⟨g,cap,d,b,_⟩
 ·subst c;exact⟨_,_,b⟩
 ·exact⟨_,_,b⟩
theorem qg4{w w':Wd}{lo b:Nat}{v:Vu}{n:Nat}{xs:List Vu}(h:w.ownsRow lo 136 7 v n xs)(a:Only b w w')(c:b<lo):w'.ownsRow lo 136 7 v n xs:=by
 refine h.kept a ?_;cases hv:v.ownBlock with
 |none=>exact .inl rfl
 |some k=>right;intro e;cases e;have:=(h.lt _ hv).1;omega
theorem q0k:(prog.info? 136).map (λi=>(i.zero,i.size,i.bytes))=some (some (.agg #[.int .i64 0,.int .i64 0,.bool false,.string ⟨#[]⟩,.int .i64 0,.slice none 0 0,.int .i64 0]),7,80):=by kernel_rfl
theorem Mem.turn'{a:Nat}{own:Nat->Prop}{es:List El}(h:Mem lo m own w es ts)(b:a<=lo):Mem a m NoB w es ts:=
 ⟨h.len,λi x u c d=>Rep.turn b (λ_ e=>False.elim e) (h.all i x u c d)⟩
def q7q(s:BA)(r:Sum (Nat×Nat) (List (Dt×Nat)×List UInt8))(w:Wd)(e:En)(w':Wd):Prop:=
 Below w.heap.size w w'/\
 match r with
 | .inl (c,k)=>∃N,e=.returned (.tuple #[.slice none 0 0,.pointer (some ⟨N,0,none⟩)])/\w.heap.size<=N/\w'.heap[N]? =some (.cells #[.int .i64 (c:Int),.int .i64 ((s.size-k:Nat):Int)] 126 (0,0))
 | .inr (ts,_)=>∃(es:List (El×Int)) (a:OA) (cap:Nat),e=.returned (.tuple #[.slice a es.length cap,.pointer none])/\w'.ownsRow w.heap.size 136 7 (.slice a es.length cap) es.length (es.flatMap Fe.cells)/\Mem w.heap.size 32 NoB w' (es.map (·.1)) (ts.map (·.1))/\es.map (·.2)=ts.map (λt=>((s.size-t.2:Nat):Int))/\es.length<=s.size
def q7n(F b:Nat)(s:BA)(w:Wd)(mv:Vu)(wr:Wd):Prop:=
 ∃(q f:Nat) (es:List (El×Int)) (ts:List (Dt×Nat)),q<=s.size/\Px.skip false (L s q)=L s q/\Rd b s q 0 wr/\Only b w wr/\
  wr.ownsRow (b+1) 136 7 mv es.length (es.flatMap Fe.cells)/\Mem (b+1) 32 (Bl mv) wr (es.map (·.1)) (ts.map (·.1))/\es.map (·.2)=ts.map (λt=>((s.size-t.2:Nat):Int))/\es.length<=q/\2*(s.size-q)+2<=f/\
  Py.topP F (L s 0)=Py.preP ts (Py.topP f (L s q))
theorem text_any(s:BA)(w:Wd)(hs:s.size<=1200)(hG:GV w)(hw:6<=w.heap.size):
  Calls prog 58 #[.string s] w λe w'=>q7q s (Py.topP (2*s.size+2) (L s 0)) w e w':=by
 have HG:=hZ hG;clear hG;have K:∀o:Obj,o=.cells #[.string s,.int .i64 0,.int .i64 0] 175 (0,0)->Rd w.heap.size s 0 0 (w.alloc o):=λo ho=>by subst ho;exact eN w _
 have d1:=hZ K;clear K;have e8:decide (1200<(s.size:Int))=false:=by simp;omega
 go_enter func58,ntmps58
 go_wp2_with (go_at_call 86;refine(qbc w.heap.size s 0 0 _ (d1.out _ rfl) (by omega) hs).mono ?_;rintro e w1 ⟨rfl,q0,e6,d2,M,a6,a7⟩;refine Hid.out ?_)
 have d3:=hZ a6;have d4:=hZ (((Only.refl w.heap.size w).alloc _).trans a7);have O:=hZ M;clear a6 a7 M;refine hZ ?_;go_wp2;go_loopw [5] (q7n (2*s.size+2) w.heap.size s w) (λ_ wr=>s.size-qdi w.heap.size wr)
 case atStart=>exact⟨q0,2*s.size+2,[],[],d2,by rw[<-O.out,Px.skip_idem],d3.out,d4.out,World.ownsRow_nil _ _ _ _,Mem.nil _ _ _ _,rfl,by simp,by omega,by rw[<-O.out,qny,Py.preP_nil]⟩
 case round=>
  obtain⟨q,f,es,ts,hq,a8,K,A,P,Q,a9,e9,f0,b0⟩:=hrel;obtain⟨f,rfl⟩:∃f',f=f'+1:=⟨f-1,by omega⟩;obtain⟨i0,hi,b1,b2,b3⟩:=info_parts q0k;have p:=hZ K;have HO:=hZ A;have n:=hZ P;have r:=hZ Q;have X:=hZ b0;have b4:=hZ a8;have b5:=hZ a9;have f1:=K.c1;have b6:Hid (qdi w.heap.size wr=q):=K.pos;have f2:w.heap.size<wr.heap.size:=K.lt;clear K A Q b0 a8 P a9;by_cases d5:q<s.size
  ·have hd:((q:Int)==(s.size:Int))=false:=by simp;omega
   have hne:L s q≠[]:=by rw[qgq s q d5];simp
   have b7:=hZ hne;have B:=hZ (qt9 f w.heap.size s q 0);clear hne;cases hr:Py.rd f false 0 (L s q)with
   |inl ck=>
    obtain⟨c,k⟩:=ck;have HT:Hid (Py.topP (2*s.size+2) (L s 0)=.inl (c,k)):=by
     show _=_;rw[X.out,qyp f _ b4.out b7.out (c,k) hr];rfl
    have C:Hid (∀w0,Rd w.heap.size s q 0 w0->GV w0->Calls prog 88 #[.pointer (some ⟨w.heap.size,0,none⟩)] w0 λe w'=>Res w.heap.size s 0 (.inl (c,k)) w0 e w'):=by
     intro w0 h1 h2;have:=B.out w0 h1 hq hs (by omega) h2 hw (by omega);rw[hr]at this;exact this
    clear hr B;go_wp2_with (first|(go_at_call 87;refine(qai w.heap.size s q 0 _ p.out).mono ?_;rintro e w' ⟨rfl,n1,rfl⟩)|(go_at_call 88;refine(C.out _ (by exact p.out.drewN _) (by exact(HG.out.only (HO.out.drewN _) hw (by omega)))).mono ?_;rintro e w1 ⟨A,N,rfl,b8,hN,p',d6⟩;refine Hid.out ?_))
    have d7:w.heap.size<=N:=by simp at b8;omega
    have HN:=hZ hN;have D:=hZ ((HO.out.drewN _).trans A);clear A hN b8 d6;refine hZ ?_;go_wp2;go_ret2
    rw[HT.out];exact⟨(D.out.alloc _).below (eR _) (eR _),N,rfl,d7,by rw[eH _ _ _ (eE.1 HN.out).1];exact HN.out⟩
   |inr xr=>
    obtain⟨xs,rr⟩:=xr;obtain⟨R,b9,S⟩:=Py.rd_short f false 0 (L s q) xs rr hr;obtain⟨t,rfl⟩:=S rfl;have HT:=hZ (qu4 f _ b4.out b7.out _ _ hr);have C:Hid (∀w0,Rd w.heap.size s q 0 w0->GV w0->Calls prog 88 #[.pointer (some ⟨w.heap.size,0,none⟩)] w0 λe w'=>Res w.heap.size s 0 (.inr ([t],rr)) w0 e w'):=by
     intro w0 h1 h2;have:=B.out w0 h1 hq hs (by omega) h2 hw (by omega);rw[hr]at this;exact this
    have c0:=q1i s q rr R;have d8:=hZ c0;rw[qc6]at b9;clear hr B R c0 S;go_wp2_with (first|(go_at_call 87;refine(qai w.heap.size s q 0 _ p.out).mono ?_;rintro e w' ⟨rfl,n1,rfl⟩)|(go_at_call 88;refine(C.out _ (by exact p.out.drewN _) (by exact(HG.out.only (HO.out.drewN _) hw (by omega)))).mono ?_;rintro e w1 ⟨A,x,t',ht,rfl,T,c7⟩;refine Hid.out ?_))
    obtain rfl:t'=t:=(List.cons.inj ht).1.symm;clear ht;have f3:wr.heap.size<=w1.heap.size:=by have:=A.size;simpa using this
    have E:Only w.heap.size wr w1:=((Only.refl w.heap.size wr).drewN n1).trans A;have D:=hZ (HO.out.trans E);have c8:=hZ c7;have v:=qg4 n.out E (by omega);have y:=hZ (r.out.only E (by omega));have HRep:=hZ T;have j:=hZ v;have HV:Hid (∀k,u5.ownBlock=some k->k<wr.heap.size):=λk hk=>(n.out.lt k hk).2
    clear A E c7 T v n r C;obtain⟨F,G,l,m,H,I,b,d⟩:=x;refine hZ ?_;go_wp2_with (at_builtin;refine wpList_append_lies _ rfl _ _ 121 rfl (w.heap.size+1) 136 i0 (.agg #[.int .i64 0,.int .i64 0,.bool false,.string ⟨#[]⟩,.int .i64 0,.slice none 0 0,.int .i64 0]) 7 80 underlying121 hi b1 b2 b3 rfl (by decide) _ _ _ rfl ((j.out.alloc _).alloc _) ⟨w1.heap.size+1,0,none⟩ 1 1 [.int .i64 F,.int .i64 G,.bool l,.string m,.int .i64 H,.slice I b d,.int .i64 q] rfl rfl ?c1 ?c2 (by decide) ?c3 ?c4 ?c5 (w1.heap.size+1+1) ?c6 ?_)
    case c1=>exact World.news_of_block (cs:=#[.int .i64 F,.int .i64 G,.bool l,.string m,.int .i64 H,.slice I b d,.int .i64 q]) (new2 _ _ _)
    case c2=>intro u hu;simp at hu;rcases hu with rfl|rfl|rfl|rfl|rfl|rfl|rfl <;> rfl
    case c3=>unfold maxLen;omega
    case c4=>omega
    case c5=>simp;omega
    case c6=>simp
    intro g cap w3 z i U c9;refine Hid.out ?_;have d9:=hZ (((D.out.alloc _).alloc _).newO i (λk h=>by have:=(j.out.lt k h).1;omega));have e0:=hZ (((c8.out.alloc _).alloc _).kept i (by intro e;have:=(j.out.lt _ e.symm).1;omega));have Y:=World.grownBy_alloc w1 (Obj.cells #[Value.int IntKind.i64 F,Value.int IntKind.i64 G,Value.bool l,Value.string m,Value.int IntKind.i64 H,Value.slice I b d] 134) none;have Z:=World.grownBy_alloc (w1.alloc (Obj.cells #[Value.int IntKind.i64 F,Value.int IntKind.i64 G,Value.bool l,Value.string m,Value.int IntKind.i64 H,Value.slice I b d] 134)) (Obj.cells #[Value.int IntKind.i64 F,Value.int IntKind.i64 G,Value.bool l,Value.string m,Value.int IntKind.i64 H,Value.slice I b d,Value.int IntKind.i64 q] 136) none;have a0:=hZ (Mem.grow (sl:=.slice (some ⟨g,0,none⟩) (es.length+1) cap) (x:=⟨F,G,l,m,H,I,b,d⟩) (lo2:=wr.heap.size) ((y.out.kept Y (λg h=>by cases h)).kept Z (λg h=>by cases h)) i U (by simp) rfl (Rep.kept Z (λg h=>by cases h) (Rep.kept Y (λg h=>by cases h) HRep.out)) (by omega) HV.out);have a1:=hZ z;have e3:Hid (List.flatMap Fe.cells es++[Value.int IntKind.i64 F,Value.int IntKind.i64 G,Value.bool l,Value.string m,Value.int IntKind.i64 H,Value.slice I b d,Value.int IntKind.i64 q]=List.flatMap Fe.cells (es++[(⟨F,G,l,m,H,I,b,d⟩,(q:Int))])):=by
     show _=_;simp[Fe.cells,El.cells]
    clear z i U c9 Y Z j y c8 D HRep HV;refine hZ ?_;go_wp2_with (go_at_call 86;refine(qbc w.heap.size s (s.size-rr.length) 0 _ e0.out (by omega) hs).mono ?_;rintro e w4 ⟨rfl,q2,e7,d0,V,a2,J⟩;refine Hid.out ?_)
    have e4:=hZ (d9.out.trans J);have e5:=hZ a2;have a3:=hZ (qg4 a1.out J (by omega));have a4:=hZ (a0.out.only J (by omega));have W:=hZ V;have a5:Hid (qdi w.heap.size w4=q2):=a2.pos;clear a2 J V;refine hZ ?_;go_wp2;go_roundw
    case rel=>
     refine⟨q2,f,es++[(⟨F,G,l,m,H,I,b,d⟩,(q:Int))],ts++[(t',(L s q).length)],d0,by rw[<-W.out,Px.skip_idem],e5.out,e4.out,?_,?_,?_,by simp;omega,by omega,?_⟩
     ·rw[<-e3.out];simpa using a3.out
     ·simpa using a4.out
     ·rw[List.map_append,List.map_append,b5.out];simp only[List.map_cons,List.map_nil,qc6];congr 3;omega
     ·rw[X.out,HT.out,Py.preP_pre,<-W.out,d8.out];rfl
    case measure=>
     have e1:=b6.out;have e2:=a5.out;rw[e1,e2];omega
  ·have hd:((q:Int)==(s.size:Int))=true:=by simp;omega
   have HT:Hid (Py.topP (2*s.size+2) (L s 0)=.inr (ts,[])):=by
    show _=_;rw[X.out,qyo f _ (qkb s q (by omega))];simp[Py.preP]
   obtain⟨a,cap,rfl⟩:=qsl n.out;go_wp2_with (go_at_call 87;refine(qai w.heap.size s q 0 _ p.out).mono ?_;rintro e w' ⟨rfl,n1,rfl⟩)
   go_ret2
   rw[HT.out];exact⟨(HO.out.drewN _).below (eR _) (eR _),es,a,cap,rfl,qfg (qg4 n.out ((Only.refl w.heap.size wr).drewN n1) (by omega)) (Nat.le_succ _),(r.out.only ((Only.refl w.heap.size wr).drewN n1) (by omega)).turn' (Nat.le_succ _),b5.out,by omega⟩
end Rd
end
section
open Go.RowKit Go.Shelf
def Mt(b:Nat)(t mo out:Int)(w:Wd):Prop:=w.heap[b]? =some (.cells #[.int .i64 t,.int .i64 mo,.int .i64 out] 164 (0,0))
theorem Mt.c0{a:Int}(h:Mt b t mo a w):w.cell? ⟨b,0,none⟩=some (.int .i64 t):=by unfold Mt at h;simp[World.cell?,h]
theorem Mt.c1{a:Int}(h:Mt b t mo a w):w.cell? ⟨b,1,none⟩=some (.int .i64 mo):=by unfold Mt at h;simp[World.cell?,h]
theorem Mt.c2{a:Int}(h:Mt b t mo a w):w.cell? ⟨b,2,none⟩=some (.int .i64 a):=by unfold Mt at h;simp[World.cell?,h]
theorem Mt.fz{a:Int}(h:Mt b t mo a w)(o:Nat):w.frozen? ⟨b,o,none⟩=false:=by unfold Mt at h;simp[World.frozen?,h]
theorem Mt.lt{a:Int}(h:Mt b t mo a w):b<w.heap.size:=(eE.1 h).1
abbrev qap(vd:Int):Vu:=.iface 166 (.agg #[.int .i64 vd,.string ⟨#[]⟩])
theorem qcl(b:Nat)(t mo a n:Int)(w:Wd)(h:Mt b t mo a w)(c:0<=t)(d:t+n<=mo)(f:0<=n)(g:mo<=1000000):
  Calls prog 200 #[.pointer (some ⟨b,0,none⟩),.int .i64 n] w λe w'=>e=.returned (.tuple #[])/\∃k,w'=(w.setCell ⟨b,0,none⟩ (.int .i64 (t+n))).drewN k:=by
 have c0:=h.c0;have c1:=h.c1;have i:=h.fz 0;have j:=hZ h;clear h;have l:¬(mo-t<n):=by omega
 go_enter func200,ntmps200
 go_wp2;go_quiet (fail)
 go_wp2;go_end0;exact⟨rfl,nq,rfl⟩
theorem qhz{B:Nat}{a b:Wd}(h:Below B a b)(n:Nat):Below B a (b.drewN n):=⟨h.os,h.tape,h.output,h.size,h.block⟩
structure Lk (W w:Wd):Prop where
 heap:w.heap=W.heap
 tape:w.tape=W.tape
 os:w.os=W.os
 output:w.output=W.output
abbrev qan(v:Vu):List PanicEntry:=[{v:=v,recovered:=false}]
theorem qsn(n:Int)(w:Wd):Calls prog 131 #[.int .i64 n] w λe w'=>e=.returned (.agg #[.int .i64 n,.string ⟨#[]⟩])/\∃o,w'=w.alloc o:=by
 go_enter func131,ntmps131
 go_wp2;refine bodyPost_ret (v:=.agg #[.int .i64 n,.string ⟨#[]⟩]) (by simp[results,results131,go_sem, *]) rfl ?_;exact⟨rfl,_,rfl⟩
theorem qb3(b:Nat)(t mo a n:Int)(w:Wd)(h:Mt b t mo a w)(c:0<=t)(d:mo<t+n)(_:0<=n)(f:t<=mo)(g:mo<=1000000):
  Calls prog 200 #[.pointer (some ⟨b,0,none⟩),.int .i64 n] w λe w'=>e=.panicked (qan (qap a))/\Below w.heap.size (w.setCell ⟨b,0,none⟩ (.int .i64 mo)) w':=by
 have c0:=h.c0;have c1:=h.c1;have c2:=h.c2;have i:=h.fz 0;have j:=hZ h;clear h;have k:mo-t<n:=by omega
 go_enter func200,ntmps200
 go_wp2;go_quiet (fail)
 go_wp2_with (go_at_call 131;refine(qsn _ _).mono ?_;rintro e w2 ⟨rfl,o,rfl⟩)
 exact⟨rfl,rfl,((qhz (Below.refl w.heap.size _) nq)).alloc (by simp) _⟩
theorem qc8(n:Int)(w:Wd):Calls prog 273 #[.bool true,.int .i64 n] w λe w'=>e=.returned (.tuple #[])/\w'=w:=by
 go_enter func273,ntmps273
 go_wp2;go_end0;exact⟨rfl,rfl⟩
theorem qc9(n:Int)(w:Wd):Calls prog 273 #[.bool false,.int .i64 n] w λe w'=>e=.panicked (qan (qap n))/\∃o,w'=w.alloc o:=by
 go_enter func273,ntmps273
 go_wp2_with (go_at_call 131;refine(qsn _ _).mono ?_;rintro e w2 ⟨rfl,o,rfl⟩)
 exact⟨rfl,rfl,o,rfl⟩
theorem qiu(n:Nat)(p:Addr):(w.drewN n).cell? p=w.cell? p:=rfl
theorem qbk{a p:Addr}{v:Vu}(h:p.block≠a.block):(w.setCell a v).cell? p=w.cell? p:=
 World.cell?_of_block (w:=w) (Below.heap_setCell _ _ _ _ h)
theorem qae{v:Vu}(h:w.cell? ⟨b,o,none⟩=some v):b<w.heap.size:=by
 rcases Nat.lt_or_ge b w.heap.size with h'|h'
 ·exact h'
 ·rw[World.cell?]at h;simp[Array.getElem?_eq_none h']at h
theorem qac(h:b<w.heap.size)(a:Obj):(w.alloc a).cell? ⟨b,o,none⟩=w.cell? ⟨b,o,none⟩:=World.cell?_of_block (w:=w) (eH _ _ _ h)
theorem qbw(h:b<w.heap.size)(a c:Obj):((w.alloc a).alloc c).cell? ⟨b,o,none⟩=w.cell? ⟨b,o,none⟩:=(qac (by simp;omega) _).trans (qac h _)
theorem qnp(h:b<w.heap.size)(a c o2:Obj):(((w.alloc a).alloc c).alloc o2).cell? ⟨b,o,none⟩=w.cell? ⟨b,o,none⟩:=(qac (by simp;omega) _).trans (qbw h _ _)
theorem qno(h:b<w.heap.size)(a c o2 d:Obj):((((w.alloc a).alloc c).alloc o2).alloc d).cell? ⟨b,o,none⟩=w.cell? ⟨b,o,none⟩:=(qac (by simp;omega) _).trans (qnp h _ _ _)
theorem qnn(h:b<w.heap.size)(a c o2 d e:Obj):(((((w.alloc a).alloc c).alloc o2).alloc d).alloc e).cell? ⟨b,o,none⟩=w.cell? ⟨b,o,none⟩:=(qac (by simp;omega) _).trans (qno h _ _ _ _)
theorem qu7(mb a f b k:Nat)(t mo:Int)(c:Array Vu)(g:OA)(i:Nat)(j:Array Vu)(w:Wd)(Q:En->Wd->Prop)
  (A:∀args w,(callFunc k args).run prog w=.ok (.enter k args) w)
  (l:∀e w,Q e w->(∃v,e=.returned v)\/(∃m,e=.panicked m))
  (B:w.cell? ⟨f,0,none⟩=some (.pointer (some ⟨mb,0,none⟩)))
  (C:w.cell? ⟨mb,0,none⟩=some (.pointer (some ⟨a,0,none⟩)))
  (q:w.cell? ⟨b,0,none⟩=some (.func (.func k) #[] c))
  (o:Mt a t mo 10 w)(r:0<=t)(s:t+1<=mo)(u:mo<=1000000)(hne:b≠a)
  (p:∀w',Lk (w.setCell ⟨a,0,none⟩ (.int .i64 (t+1))) w'->Calls prog k (#[.pointer g,.func (.func i) #[] j]++c) w' Q):
  Calls prog 376 #[.pointer g,.func (.func i) #[] j,.pointer (some ⟨f,0,none⟩),.pointer (some ⟨b,0,none⟩)] w Q:=by
 have x:=hZ p;have y:=hZ l;have D:∀n,((w.setCell ⟨a,0,none⟩ (.int .i64 (t+1))).drewN n).cell? ⟨b,0,none⟩=some (.func (.func k) #[] c):=λn=>by
  rw[qiu,qbk hne];exact q
 have z:=hZ (qcl a t mo 10 1 w o r s (by omega) u);clear p l o;go_enter func376,ntmps376
 go_wp2_with (go_at_call 200;refine z.out.mono ?_;rintro e w2 ⟨rfl,n,rfl⟩)
 go_wp2_with (go_at_fn k;refine(x.out _ (by exact⟨rfl,rfl,rfl,rfl⟩)).mono ?_;intro e w2 d)
 all_goals first|exact d|exact⟨rfl,d⟩|(rcases y.out _ _ d with⟨v,h⟩|⟨m,h⟩ <;> cases h)|trace_state
theorem q68(b j:Nat)(f:OA)(l:Nat)(m:Array Vu)(k:Nat)(c:Array Vu)(w:Wd)(Q:En->Wd->Prop)
  (u:∀args w,(callFunc k args).run prog w=.ok (.enter k args) w)
  (n:∀e w,Q e w->(∃v,e=.returned v)\/(∃o,e=.panicked o))
  (d:w.cell? ⟨b,0,none⟩=some (.func (.func k) #[] c))
  (p:∀w',Lk ((w.alloc (.cells #[.pointer f] 378)).alloc (.cells #[.func (.func l) #[] m] 295)) w'->Calls prog k (#[.pointer f,.func (.func 385) #[] #[.pointer (some ⟨j,0,none⟩),.pointer (some ⟨w.heap.size,0,none⟩),.pointer (some ⟨w.heap.size+1,0,none⟩)]]++c) w' Q):
  Calls prog 384 #[.pointer f,.func (.func l) #[] m,.pointer (some ⟨b,0,none⟩),.pointer (some ⟨j,0,none⟩)] w Q:=by
 have s:=hZ p;have t:=hZ n;have q:∀a:Obj,(w.alloc a).cell? ⟨b,0,none⟩=some (.func (.func k) #[] c):=λa=>by
  rw[<-d];exact qac (qae d) a
 have r:∀a g:Obj,((w.alloc a).alloc g).cell? ⟨b,0,none⟩=some (.func (.func k) #[] c):=λa g=>by
  rw[<-d];exact qbw (qae d) a g
 clear p n;go_enter func384,ntmps384
 go_wp2_with (go_at_fn k;refine(s.out _ (by exact⟨rfl,rfl,rfl,rfl⟩)).mono ?_;intro e w2 i)
 all_goals first|exact i|exact⟨rfl,i⟩|(rcases t.out _ _ i with⟨v,h⟩|⟨o,h⟩ <;> cases h)
theorem q37(v:Vu)(b c d:Nat)(f:OA)(g:Nat)(i:Array Vu)(k:Nat)(j:Array Vu)(w:Wd)(Q:En->Wd->Prop)
  (q:∀args w,(callFunc k args).run prog w=.ok (.enter k args) w)
  (l:∀e w,Q e w->(∃v,e=.returned v)\/(∃m,e=.panicked m))
  (r:w.cell? ⟨b,0,none⟩=some (.func (.func k) #[] j))
  (s:w.cell? ⟨c,0,none⟩=some (.pointer f))
  (t:w.cell? ⟨d,0,none⟩=some (.func (.func g) #[] i))
  (n:∀w',Lk w w'->Calls prog k (#[.pointer f,.func (.func g) #[] i]++j) w' Q):
  Calls prog 385 #[v,.pointer (some ⟨b,0,none⟩),.pointer (some ⟨c,0,none⟩),.pointer (some ⟨d,0,none⟩)] w Q:=by
 have o:=hZ n;have p:=hZ l;clear n l;go_enter func385,ntmps385
 go_wp2_with (go_at_fn k;refine(o.out _ (by exact⟨rfl,rfl,rfl,rfl⟩)).mono ?_;intro e w2 a)
 all_goals first|exact a|exact⟨rfl,a⟩|(rcases p.out _ _ a with⟨v,h⟩|⟨m,h⟩ <;> cases h)
theorem if1(b j l:Nat)(f:OA)(m:Nat)(n:Array Vu)(k:Nat)(c:Array Vu)(w:Wd)(Q:En->Wd->Prop)
  (x:∀args w,(callFunc k args).run prog w=.ok (.enter k args) w)
  (o:∀e w,Q e w->(∃v,e=.returned v)\/(∃p,e=.panicked p))
  (d:w.cell? ⟨b,0,none⟩=some (.func (.func k) #[] c))
  (q:∀w',Lk ((w.alloc (.cells #[.pointer f] 378)).alloc (.cells #[.func (.func m) #[] n] 295)) w'->Calls prog k (#[.pointer f,.func (.func 399) #[] #[.pointer (some ⟨j,0,none⟩),.pointer (some ⟨w.heap.size,0,none⟩),.pointer (some ⟨w.heap.size+1,0,none⟩),.pointer (some ⟨l,0,none⟩)]]++c) w' Q):
  Calls prog 398 #[.pointer f,.func (.func m) #[] n,.pointer (some ⟨b,0,none⟩),.pointer (some ⟨j,0,none⟩),.pointer (some ⟨l,0,none⟩)] w Q:=by
 have t:=hZ q;have u:=hZ o;have r:∀a:Obj,(w.alloc a).cell? ⟨b,0,none⟩=some (.func (.func k) #[] c):=λa=>by
  rw[<-d];exact qac (qae d) a
 have s:∀a g:Obj,((w.alloc a).alloc g).cell? ⟨b,0,none⟩=some (.func (.func k) #[] c):=λa g=>by
  rw[<-d];exact qbw (qae d) a g
 clear q o;go_enter func398,ntmps398
 go_wp2_with (go_at_fn k;refine(t.out _ (by exact⟨rfl,rfl,rfl,rfl⟩)).mono ?_;intro e w2 i)
 all_goals first|exact i|exact⟨rfl,i⟩|(rcases u.out _ _ i with⟨v,h⟩|⟨p,h⟩ <;> cases h)
theorem set1(b j:Nat)(f:OA)(l:Nat)(m:Array Vu)(k:Nat)(c:Array Vu)(w:Wd)(Q:En->Wd->Prop)
  (u:∀args w,(callFunc k args).run prog w=.ok (.enter k args) w)
  (n:∀e w,Q e w->(∃v,e=.returned v)\/(∃o,e=.panicked o))
  (d:w.cell? ⟨b,0,none⟩=some (.func (.func k) #[] c))
  (p:∀w',Lk ((w.alloc (.cells #[.pointer f] 378)).alloc (.cells #[.func (.func l) #[] m] 295)) w'->Calls prog k (#[.pointer f,.func (.func 356) #[] #[.pointer (some ⟨j,0,none⟩),.pointer (some ⟨w.heap.size,0,none⟩),.pointer (some ⟨w.heap.size+1,0,none⟩)]]++c) w' Q):
  Calls prog 355 #[.pointer f,.func (.func l) #[] m,.pointer (some ⟨b,0,none⟩),.pointer (some ⟨j,0,none⟩)] w Q:=by
 have s:=hZ p;have t:=hZ n;have q:∀a:Obj,(w.alloc a).cell? ⟨b,0,none⟩=some (.func (.func k) #[] c):=λa=>by
  rw[<-d];exact qac (qae d) a
 have r:∀a g:Obj,((w.alloc a).alloc g).cell? ⟨b,0,none⟩=some (.func (.func k) #[] c):=λa g=>by
  rw[<-d];exact qbw (qae d) a g
 clear p n;go_enter func355,ntmps355
 go_wp2_with (go_at_fn k;refine(s.out _ (by exact⟨rfl,rfl,rfl,rfl⟩)).mono ?_;intro e w2 i)
 all_goals first|exact i|exact⟨rfl,i⟩|(rcases t.out _ _ i with⟨v,h⟩|⟨o,h⟩ <;> cases h)
end
section
open Go.RowKit Go.Shelf
theorem qw4(d a ty:Nat)(b c:Vu)(h:a≠ty)(w:Wd):(Op.equalIn (d+1) 116 (.iface a b) (.iface ty c)).run prog w=.ok false w:=by
 simp[Op.equalIn,run_underlying underlying116,h]
theorem qa6(a ty:Nat)(b c:Vu)(h:a≠ty)(w:Wd):(binOp .eql 116 (.iface a b) (.iface ty c)).run prog w=.ok (.bool false) w:=by
 have d:(Op.equal 116 (.iface a b) (.iface ty c)).run prog w=.ok false w:=qw4 9999 a ty b c h w;simp[binOp,d]
theorem qc4(a:Nat)(b c:Vu)(r:Bool)(w w':Wd)(h:∀d,(Op.equalIn (d+1+1) 116 (.iface a b) (.iface a c)).run prog w=.ok r w'):(binOp .eql 116 (.iface a b) (.iface a c)).run prog w=.ok (.bool r) w':=by
 have e:(Op.equal 116 (.iface a b) (.iface a c)).run prog w=.ok r w':=h 9998;simp[binOp,e]
theorem q3h:Tryz.t180.comparable=true:=by kernel_rfl
theorem q3g:Tryz.t181.comparable=true:=by kernel_rfl
theorem q3f:Tryz.t182.comparable=true:=by kernel_rfl
theorem q3e:Tryz.t183.comparable=true:=by kernel_rfl
theorem q3d:Tryz.t186.comparable=true:=by kernel_rfl
theorem q28:Tryz.t379.comparable=true:=by kernel_rfl
theorem q3c:Tryz.t246.comparable=true:=by kernel_rfl
theorem q3b:Tryz.t281.comparable=true:=by kernel_rfl
theorem q3a:Tryz.t285.comparable=true:=by kernel_rfl
theorem q29:Tryz.t322.comparable=true:=by kernel_rfl
theorem qwz(a b:Int)(w:Wd):(binOp .eql 116 (.iface 180 (.int .i64 a)) (.iface 180 (.int .i64 b))).run prog w=.ok (.bool (a==b)) w:=
 qc4 180 _ _ _ w w λd=>by simp[Op.equalIn,run_underlying underlying116,run_underlying underlying180,q3h]
theorem qho(a b:Bool)(w:Wd):(binOp .eql 116 (.iface 181 (.bool a)) (.iface 181 (.bool b))).run prog w=.ok (.bool (a==b)) w:=
 qc4 181 _ _ _ w w λd=>by simp[Op.equalIn,run_underlying underlying116,run_underlying underlying181,q3g]
theorem qwy(a b:BA)(w:Wd):(binOp .eql 116 (.iface 182 (.string a)) (.iface 182 (.string b))).run prog w=.ok (.bool (a==b)) w:=
 qc4 182 _ _ _ w w λd=>by simp[Op.equalIn,run_underlying underlying116,run_underlying underlying182,q3f]
theorem qwx(a b:BA)(w:Wd):(binOp .eql 116 (.iface 183 (.string a)) (.iface 183 (.string b))).run prog w=.ok (.bool (a==b)) w:=
 qc4 183 _ _ _ w w λd=>by simp[Op.equalIn,run_underlying underlying116,run_underlying underlying183,q3e]
theorem qw0(w:Wd):(binOp .eql 116 (.iface 186 (.agg #[])) (.iface 186 (.agg #[]))).run prog w=.ok (.bool true) w:=
 qc4 186 _ _ _ w w λd=>by simp[Op.equalIn,run_underlying underlying116,run_underlying underlying186,q3d]
theorem qtq(w:Wd):(binOp .eql 116 (.iface 379 (.agg #[])) (.iface 379 (.agg #[]))).run prog w=.ok (.bool true) w:=
 qc4 379 _ _ _ w w λd=>by simp[Op.equalIn,run_underlying underlying116,run_underlying underlying379,q28]
end
section
open Go.RowKit Go.Shelf
theorem q4x(v:Vu)(w:Wd):(Instr.typeAssert (.iface 180 v) 116 180 true).run prog w=.ok (.tuple #[v,.bool true]) w:=by kernel_rfl
theorem qdk(t:Nat)(v:Vu)(h:t≠180)(w:Wd):(Instr.typeAssert (.iface t v) 116 180 true).run prog w=.ok (.tuple #[.int .i64 0,.bool false]) w:=by
 simp[Instr.typeAssert,run_underlying underlying180,h,go_sem]
theorem q4w(v:Vu)(w:Wd):(Instr.typeAssert (.iface 181 v) 116 181 true).run prog w=.ok (.tuple #[v,.bool true]) w:=by kernel_rfl
theorem qd0(t:Nat)(v:Vu)(h:t≠181)(w:Wd):(Instr.typeAssert (.iface t v) 116 181 true).run prog w=.ok (.tuple #[.bool false,.bool false]) w:=by
 simp[Instr.typeAssert,run_underlying underlying181,h,go_sem]
theorem q4v(v:Vu)(w:Wd):(Instr.typeAssert (.iface 182 v) 116 182 true).run prog w=.ok (.tuple #[v,.bool true]) w:=by kernel_rfl
theorem qep(t:Nat)(v:Vu)(h:t≠182)(w:Wd):(Instr.typeAssert (.iface t v) 116 182 true).run prog w=.ok (.tuple #[.string ⟨#[]⟩,.bool false]) w:=by
 simp[Instr.typeAssert,run_underlying underlying182,h,go_sem]
theorem q4u(v:Vu)(w:Wd):(Instr.typeAssert (.iface 183 v) 116 183 true).run prog w=.ok (.tuple #[v,.bool true]) w:=by kernel_rfl
theorem qfq(t:Nat)(v:Vu)(h:t≠183)(w:Wd):(Instr.typeAssert (.iface t v) 116 183 true).run prog w=.ok (.tuple #[.string ⟨#[]⟩,.bool false]) w:=by
 simp[Instr.typeAssert,run_underlying underlying183,h,go_sem]
theorem q2y(v:Vu)(w:Wd):(Instr.typeAssert (.iface 186 v) 116 186 true).run prog w=.ok (.tuple #[v,.bool true]) w:=by kernel_rfl
theorem qfp(t:Nat)(v:Vu)(h:t≠186)(w:Wd):(Instr.typeAssert (.iface t v) 116 186 true).run prog w=.ok (.tuple #[.agg #[],.bool false]) w:=by
 simp[Instr.typeAssert,run_underlying underlying186,h,go_sem]
theorem q2x(v:Vu)(w:Wd):(Instr.typeAssert (.iface 246 v) 116 246 true).run prog w=.ok (.tuple #[v,.bool true]) w:=by kernel_rfl
theorem qs9(t:Nat)(v:Vu)(h:t≠246)(w:Wd):(Instr.typeAssert (.iface t v) 116 246 true).run prog w=.ok (.tuple #[.pointer none,.bool false]) w:=by
 simp[Instr.typeAssert,run_underlying underlying246,h,go_sem]
theorem q2w(v:Vu)(w:Wd):(Instr.typeAssert (.iface 281 v) 116 281 true).run prog w=.ok (.tuple #[v,.bool true]) w:=by kernel_rfl
theorem qhj(t:Nat)(v:Vu)(h:t≠281)(w:Wd):(Instr.typeAssert (.iface t v) 116 281 true).run prog w=.ok (.tuple #[.pointer none,.bool false]) w:=by
 simp[Instr.typeAssert,run_underlying underlying281,h,go_sem]
theorem q2v(v:Vu)(w:Wd):(Instr.typeAssert (.iface 285 v) 116 285 true).run prog w=.ok (.tuple #[v,.bool true]) w:=by kernel_rfl
theorem qs8(t:Nat)(v:Vu)(h:t≠285)(w:Wd):(Instr.typeAssert (.iface t v) 116 285 true).run prog w=.ok (.tuple #[.pointer none,.bool false]) w:=by
 simp[Instr.typeAssert,run_underlying underlying285,h,go_sem]
theorem q4t(v:Vu)(w:Wd):(Instr.typeAssert (.iface 322 v) 116 322 true).run prog w=.ok (.tuple #[v,.bool true]) w:=by kernel_rfl
theorem q0d(t:Nat)(v:Vu)(h:t≠322)(w:Wd):(Instr.typeAssert (.iface t v) 116 322 true).run prog w=.ok (.tuple #[.pointer none,.bool false]) w:=by
 simp[Instr.typeAssert,run_underlying underlying322,h,go_sem]
end
section
open Go.RowKit Go.Shelf
theorem qqd(b c d o:Nat)(f:OA)(g:Nat)(i:Array Vu)(k:Nat)(j:Array Vu)(w:Wd)(Q:En->Wd->Prop)
  (r:∀args w,(callFunc k args).run prog w=.ok (.enter k args) w)
  (l:∀e w,Q e w->(∃v,e=.returned v)\/(∃m,e=.panicked m))
  (s:w.cell? ⟨b,0,none⟩=some (.func (.func k) #[] j))
  (t:w.cell? ⟨c,0,none⟩=some (.pointer f))
  (u:w.cell? ⟨d,0,none⟩=some (.func (.func g) #[] i))
  (n:∀w',Lk w w'->Calls prog k (#[.pointer f,.func (.func g) #[] i]++j) w' Q):
  Calls prog 399 #[.iface 181 (.bool false),.pointer (some ⟨b,0,none⟩),.pointer (some ⟨c,0,none⟩),.pointer (some ⟨d,0,none⟩),.pointer (some ⟨o,0,none⟩)] w Q:=by
 have p:=hZ n;have q:=hZ l;have x:∀w,(binOp BinOp.eql 116 (.iface 181 (.bool false)) (.iface 181 (.bool false))).run prog w=.ok (.bool true) w:=λw=>qho _ _ w
 clear n l;go_enter func399,ntmps399
 go_wp2_with (go_at_fn k;refine(p.out _ (by exact⟨rfl,rfl,rfl,rfl⟩)).mono ?_;intro e w2 a)
 all_goals first|exact a|exact⟨rfl,a⟩|(rcases q.out _ _ a with⟨v,h⟩|⟨m,h⟩ <;> cases h)
theorem qtc(o b c d:Nat)(f:OA)(g:Nat)(i:Array Vu)(k:Nat)(j:Array Vu)(w:Wd)(Q:En->Wd->Prop)
  (r:∀args w,(callFunc k args).run prog w=.ok (.enter k args) w)
  (l:∀e w,Q e w->(∃v,e=.returned v)\/(∃m,e=.panicked m))
  (s:w.cell? ⟨d,0,none⟩=some (.func (.func k) #[] j))
  (t:w.cell? ⟨b,0,none⟩=some (.pointer f))
  (u:w.cell? ⟨c,0,none⟩=some (.func (.func g) #[] i))
  (n:∀w',Lk w w'->Calls prog k (#[.pointer f,.func (.func g) #[] i]++j) w' Q):
  Calls prog 399 #[.iface 181 (.bool true),.pointer (some ⟨o,0,none⟩),.pointer (some ⟨b,0,none⟩),.pointer (some ⟨c,0,none⟩),.pointer (some ⟨d,0,none⟩)] w Q:=by
 have p:=hZ n;have q:=hZ l;have x:∀w,(binOp BinOp.eql 116 (.iface 181 (.bool true)) (.iface 181 (.bool false))).run prog w=.ok (.bool false) w:=λw=>qho _ _ w
 clear n l;go_enter func399,ntmps399
 go_wp2_with (go_at_fn k;refine(p.out _ (by exact⟨rfl,rfl,rfl,rfl⟩)).mono ?_;intro e w2 a)
 all_goals first|exact a|exact⟨rfl,a⟩|(rcases q.out _ _ a with⟨v,h⟩|⟨m,h⟩ <;> cases h)
theorem qtd(ty:Nat)(x:Vu)(p c d f:Nat)(g:OA)(i:Nat)(j:Array Vu)(k:Nat)(l:Array Vu)(w:Wd)(Q:En->Wd->Prop)
  (s:∀args w,(callFunc k args).run prog w=.ok (.enter k args) w)
  (m:∀e w,Q e w->(∃v,e=.returned v)\/(∃n,e=.panicked n))
  (t:w.cell? ⟨f,0,none⟩=some (.func (.func k) #[] l))
  (u:w.cell? ⟨c,0,none⟩=some (.pointer g))
  (y:w.cell? ⟨d,0,none⟩=some (.func (.func i) #[] j))
  (a:ty≠181)
  (o:∀w',Lk w w'->Calls prog k (#[.pointer g,.func (.func i) #[] j]++l) w' Q):
  Calls prog 399 #[.iface ty x,.pointer (some ⟨p,0,none⟩),.pointer (some ⟨c,0,none⟩),.pointer (some ⟨d,0,none⟩),.pointer (some ⟨f,0,none⟩)] w Q:=by
 have q:=hZ o;have r:=hZ m;have z:∀w,(binOp BinOp.eql 116 (.iface ty x) (.iface 181 (.bool false))).run prog w=.ok (.bool false) w:=λw=>qa6 _ _ _ _ a w
 clear o m;go_enter func399,ntmps399
 go_wp2_with (go_at_fn k;refine(q.out _ (by exact⟨rfl,rfl,rfl,rfl⟩)).mono ?_;intro e w2 b)
 all_goals first|exact b|exact⟨rfl,b⟩|(rcases r.out _ _ b with⟨v,h⟩|⟨n,h⟩ <;> cases h)
theorem qro(mb a b d:Nat)(t:Int)(f:OA)(g:Nat)(h:Array Vu)(w:Wd)
  (m:w.cell? ⟨b,0,none⟩=some (.pointer (some ⟨mb,0,none⟩)))
  (n:w.cell? ⟨mb,0,none⟩=some (.pointer (some ⟨a,0,none⟩)))
  (c:Mt a t t 10 w)(i:0<=t)(j:t<=1000000):
  Calls prog 376 #[.pointer f,.func (.func g) #[] h,.pointer (some ⟨b,0,none⟩),.pointer (some ⟨d,0,none⟩)] w λe w'=>e=.panicked (qan (qap 10))/\Below w.heap.size (w.setCell ⟨a,0,none⟩ (.int .i64 t)) w':=by
 have k:=hZ (qb3 a t t 10 1 w c i (by omega) (by omega) (by omega) j);clear c;go_enter func376,ntmps376
 go_wp2_with (go_at_call 200;refine k.out.mono ?_;rintro e w2 ⟨rfl,l⟩)
 exact⟨rfl,rfl,l⟩
theorem q36(d f g ks:Nat)(cs:Array Vu)(v:Vu)(i:OA)(a:Nat)(j:Array Vu)(w:Wd)(Q:En->Wd->Prop)
  (q:∀args w,(callFunc a args).run prog w=.ok (.enter a args) w)
  (es:∀args w,(callFunc ks args).run prog w=.ok (.enter ks args) w)
  (k:∀e w,Q e w->(∃v,e=.returned v)\/(∃b,e=.panicked b))
  (r:w.cell? ⟨d,0,none⟩=some (.func (.func ks) #[] cs))
  (s:w.cell? ⟨f,0,none⟩=some (.pointer i))
  (l:Calls prog ks (#[.pointer i,v]++cs) w λe w1=>(e=.returned (.tuple #[])/\w1.cell? ⟨g,0,none⟩=some (.func (.func a) #[] j)/\Calls prog a (#[.iface 379 (.agg #[])]++j) w1 Q)\/((∃b,e=.panicked b)/\Q e w1)):
  Calls prog 356 #[v,.pointer (some ⟨d,0,none⟩),.pointer (some ⟨f,0,none⟩),.pointer (some ⟨g,0,none⟩)] w Q:=by
 have n:=hZ l;have o:=hZ k;clear l k;go_enter func356,ntmps356
 go_wp2_with (go_at_fn ks;refine n.out.mono ?_;rintro e w1 (⟨rfl,t,m⟩|⟨⟨b,rfl⟩,c⟩))
 ·have p:=hZ m;clear m;go_wp2_with (go_at_fn a;refine p.out.mono ?_;intro e w2 c)
  all_goals first|exact c|exact⟨rfl,c⟩|(rcases o.out _ _ c with⟨v,h⟩|⟨b,h⟩ <;> cases h)
 ·exact⟨rfl,c⟩
theorem q7m(b c mb g o n cap:Nat)(f:OA)(i:Nat)(j:Array Vu)(w:Wd)(Q:En->Wd->Prop)
  (k:∀e w,Q e w->(∃v,e=.returned v)\/(∃l,e=.panicked l))
  (m:w.cell? ⟨b,0,none⟩=some (.pointer (some ⟨mb,0,none⟩)))
  (p:w.cell? ⟨c,0,none⟩=some (.slice (some ⟨g,o,none⟩) n cap))
  (q:∀w',Lk (w.alloc (.cells #[.func (.func i) #[] j] 295)) w'->Calls prog 371 (#[.pointer (some ⟨mb,0,none⟩),.slice (some ⟨g,o,none⟩) n cap,.pointer f,.pointer none,.func (.func 372) #[] #[.pointer (some ⟨b,0,none⟩),.pointer (some ⟨w.heap.size,0,none⟩)]]) w' Q):
  Calls prog 370 #[.pointer f,.func (.func i) #[] j,.pointer (some ⟨b,0,none⟩),.pointer (some ⟨c,0,none⟩)] w Q:=by
 have t:=hZ q;have u:=hZ k;have r:∀a:Obj,(w.alloc a).cell? ⟨b,0,none⟩=some (.pointer (some ⟨mb,0,none⟩)):=λa=>by
  rw[<-m];exact qac (qae m) a
 have s:∀a:Obj,(w.alloc a).cell? ⟨c,0,none⟩=some (.slice (some ⟨g,o,none⟩) n cap):=λa=>by
  rw[<-p];exact qac (qae p) a
 clear q k;go_enter func370,ntmps370
 go_wp2_with (go_at_call 371;refine(t.out _ (by exact⟨rfl,rfl,rfl,rfl⟩)).mono ?_;intro e w2 d)
 all_goals first|exact d|exact⟨rfl,d⟩|(rcases u.out _ _ d with⟨v,h⟩|⟨l,h⟩ <;> cases h)
end
section
open Go.RowKit Go.Shelf
open Sc
abbrev bp(b:Nat):Vu:=.pointer (some ⟨b,0,none⟩)
structure Gh where
 I:Nat->Option Obj
 J:List Nat
 E:List (Nat×Vu)
 B:List (Bs×Nat)
 P:Pm->Nat
 K:Nat->Nat
 mb:Nat
 sb:Nat
 cb:Nat
 mp:Nat
 W:Wd
 F:Nat->Prop
structure Gh.le (G H:Gh):Prop where
 I:∀{b:Nat} {o:Obj},G.I b=some o->H.I b=some o
 J:∀{i b:Nat},G.J[i]? =some b->H.J[i]? =some b
 E:∀{i:Nat} {p:Nat×Vu},G.E[i]? =some p->H.E[i]? =some p
 B:∀{s:Bs} {b:Nat},(s,b)∈G.B->(s,b)∈H.B
 P:H.P=G.P
 K:H.K=G.K
 mb:H.mb=G.mb
 sb:H.sb=G.sb
 cb:H.cb=G.cb
 mp:H.mp=G.mp
theorem Gh.le.refl(G:Gh):G.le G:=⟨id,id,id,id,rfl,rfl,rfl,rfl,rfl,rfl⟩
theorem Gh.le.trans{G H L:Gh}(a:G.le H)(b:H.le L):G.le L:=
 ⟨λh=>b.I (a.I h),λh=>b.J (a.J h),λh=>b.E (a.E h),λh=>b.B (a.B h),b.P.trans a.P,b.K.trans a.K,b.mb.trans a.mb,b.sb.trans a.sb,b.cb.trans a.cb,b.mp.trans a.mp⟩
abbrev Gh.mbox(G:Gh)(q:Nat):Prop:=G.I q=some (.cells #[bp G.mb] 107 (0,0))
theorem Gh.le.mbox{G H:Gh}(h:G.le H){q:Nat}(a:G.mbox q):H.mbox q:=by unfold Gh.mbox;rw[h.mb];exact h.I a
inductive NRep (G:Gh):Option Nat->Option Addr->Prop where
 |none:NRep G none none
 |some (i fb:Nat) (sv:Vu) (h:G.E[i]? =some (fb,sv)):NRep G (some i) (some ⟨fb,0,none⟩)
theorem NRep.mono{G H:Gh}(h:G.le H):∀{e p},NRep G e p->NRep H e p
 |_,_,.none=>.none
 |_,_,.some i fb sv a=>.some i fb sv (h.E a)
inductive Sh (G:Gh):List Nat->Option Addr->Prop where
 |nil (p:OA):Sh G [] p
 |cons (n:Nat) (sh:List Nat) (fb:Nat) (a:OA) (cap:Nat) (q:OA) (h:G.I fb=some (.cells #[.slice a n cap,.pointer q] 461 (0,0))) (hs:Sh G sh q):Sh G (n::sh) (some ⟨fb,0,none⟩)
theorem Sh.mono{G H:Gh}(h:G.le H):∀{sh p},Sh G sh p->Sh H sh p
 |_,_,.nil p=>.nil p
 |_,_,.cons n sh fb a cap q x y=>.cons n sh fb a cap q (h.I x) (Sh.mono h y)
inductive BRep (G:Gh):Nat->Bool->Vu->Prop where
 |num (n q1 q2:Nat) (h1:G.I q1=some (.cells #[.int .i64 (n:Int)] 3 (0,0))) (h2:G.mbox q2):BRep G n false (.func (.func 363) #[] #[bp q1,bp q2])
 |rest (q:Nat) (h:G.mbox q):BRep G 1 true (.func (.func 358) #[] #[bp q])
theorem BRep.mono{G H:Gh}(h:G.le H):∀{n r x},BRep G n r x->BRep H n r x
 |_,_,_,.num n q1 q2 a b=>.num n q1 q2 (h.I a) (h.mbox b)
 |_,_,_,.rest q a=>.rest q (h.mbox a)
structure Dl where
 k:Int
 n:Int
 tr:Bool
 tx:BA
 m:Int
 a:OA
 len:Nat
 cap:Nat
abbrev Dl.cells(e:Dl):Array Vu:=#[.int .i64 e.k,.int .i64 e.n,.bool e.tr,.string e.tx,.int .i64 e.m,.slice e.a e.len e.cap]
mutual
inductive DRep (G:Gh):Dt->Dl->Prop where
 |num (e:Dl) (h:e.k=0) (h0:-9223372036854775808<=e.n) (h1:e.n<=9223372036854775807) (hc:e.len=0/\e.tr=false/\e.tx=⟨#[]⟩):DRep G (.num e.n) e
 |bool (e:Dl) (h:e.k=1) (hc:e.len=0/\e.n=0/\e.tx=⟨#[]⟩):DRep G (.bool e.tr) e
 |str (e:Dl) (h:e.k=2) (hz:e.tx.size<=1000000000) (hc:e.len=0/\e.n=0/\e.tr=false):DRep G (.str e.tx.data.toList) e
 |sym (e:Dl) (h:e.k=3) (hz:e.tx.size<=1000000000) (hc:e.len=0):DRep G (.sym e.tx.data.toList e.m) e
 |nil (e:Dl) (h:e.k=4) (hl:e.len=0):DRep G (.list []) e
 |list (e:Dl) (h:e.k=4) (l:List Dt) (es:List Dl) (g o:Nat) (arr:Array Vu) (hl:e.len=es.length) (hc:e.len<=e.cap) (hm:e.len<=30000) (ha:e.a=some ⟨g,o,none⟩) (hg:G.I g=some (.cells arr 134 (0,0)))
   (hr:∀(i j:Nat) (x:Dl),es[i]? =some x->j<6->arr[o+i*6+j]? =x.cells[j]?) (hs:DsRep G l es):DRep G (.list l) e
inductive DsRep (G:Gh):List Dt->List Dl->Prop where
 |nil:DsRep G [] []
 |cons (d:Dt) (r:List Dt) (e:Dl) (es:List Dl) (h:DRep G d e) (hs:DsRep G r es):DsRep G (d::r) (e::es)
end
mutual
theorem DRep.mono{G H:Gh}(h:G.le H):∀{d e},DRep G d e->DRep H d e
 |_,_,.num e a b c d=>.num e a b c d
 |_,_,.bool e a b=>.bool e a b
 |_,_,.str e a b c=>.str e a b c
 |_,_,.sym e a b c=>.sym e a b c
 |_,_,.nil e a b=>.nil e a b
 |_,_,.list e a l es g o arr hl hc hm ha hg hr hs=>.list e a l es g o arr hl hc hm ha (h.I hg) hr (DsRep.mono h hs)
theorem DsRep.mono{G H:Gh}(h:G.le H):∀{d e},DsRep G d e->DsRep H d e
 |_,_,.nil=>.nil
 |_,_,.cons d r e es a b=>.cons d r e es (DRep.mono h a) (DsRep.mono h b)
end
def RowI(G:Gh)(ty:Nat)(sl:Vu)(xs:List Vu):Prop:=∃g o cap arr,sl=.slice (some ⟨g,o,none⟩) xs.length cap/\G.I g=some (.cells arr ty (0,0))/\xs.length<=cap/\xs.length<=1000000/\∀i x,xs[i]? =some x->arr[o+i]? =some x
theorem RowI.mono{G H:Gh}(h:G.le H){ty:Nat}{sl:Vu}{xs:List Vu}:RowI G ty sl xs->RowI H ty sl xs
 |⟨g,o,cap,arr,a,b,c,d,e⟩=>⟨g,o,cap,arr,a,h.I b,c,d,e⟩
inductive TRep (G:Gh):List Nat->Tg->Vu->Prop where
 |loc (sh:List Nat) (u i n q:Nat) (hs:sh[u]? =some n) (hi:i<n) (hb:u<=1000000000/\n<=1000000000) (h:G.I q=some (.cells #[.int .i64 (u:Int),.int .i64 (i:Int)] 395 (0,0))):TRep G sh (.loc u i) (.func (.func 400) #[] #[bp q])
 |glo (sh:List Nat) (s:Bs) (q b:Nat) (h:G.I q=some (.cells #[bp b] 319 (0,0))) (hb:(s,b)∈G.B):TRep G sh (.glo s) (.func (.func 401) #[] #[bp q])
 |def' (sh:List Nat) (s:Bs) (q1 q2:Nat) (t:BA) (h1:G.mbox q1) (h2:G.I q2=some (.cells #[.string t] 9 (0,0))) (ht:t.data.toList=s):TRep G sh (.def' s) (.func (.func 322) #[] #[bp q1,bp q2])
theorem TRep.mono{G H:Gh}(h:G.le H):∀{sh t x},TRep G sh t x->TRep H sh t x
 |_,_,_,.loc sh u i n q c d f a=>.loc sh u i n q c d f (h.I a)
 |_,_,_,.glo sh s q b a c=>.glo sh s q b (h.I a) (h.B c)
 |_,_,_,.def' sh s q1 q2 t a b c=>.def' sh s q1 q2 t (h.mbox a) (h.I b) c
mutual
inductive CRep (G:Gh):List Nat->Ex->Vu->Prop where
 |step (sh:List Nat) (e:Ex) (pm pc:Nat) (y:Vu) (h1:G.mbox pm) (h2:G.I pc=some (.cells #[y] 241 (0,0))) (h:IRep G sh e y):CRep G sh e (.func (.func 376) #[] #[bp pm,bp pc])
inductive IRep (G:Gh):List Nat->Ex->Vu->Prop where
 |quo (sh:List Nat) (d:Dt) (q1 q2 q3:Nat) (e:Dl) (h1:G.mbox q1) (h2:G.I q2=some (.cells #[.int .i64 (qaf d:Int)] 3 (0,0))) (h3:G.I q3=some (.cells e.cells 134 (0,0))) (hd:DRep G d e):IRep G sh (.quo d) (.func (.func 340) #[] #[bp q1,bp q2,bp q3])
 |loc (sh:List Nat) (u i n q:Nat) (hs:sh[u]? =some n) (hi:i<n) (hb:u<=1000000000/\n<=1000000000) (h:G.I q=some (.cells #[.int .i64 (u:Int),.int .i64 (i:Int)] 395 (0,0))):IRep G sh (.loc u i) (.func (.func 366) #[] #[bp q])
 |glo (sh:List Nat) (s:Bs) (q b:Nat) (h:G.I q=some (.cells #[bp b] 319 (0,0))) (hb:(s,b)∈G.B):IRep G sh (.glo s) (.func (.func 368) #[] #[bp q])
 |ite (sh:List Nat) (c t:Ex) (e:Option Ex) (q1 q2 q3:Nat) (xc xe xt:Vu) (h1:G.I q1=some (.cells #[xc] 241 (0,0))) (h2:G.I q2=some (.cells #[xe] 241 (0,0))) (h3:G.I q3=some (.cells #[xt] 241 (0,0)))
   (hc:CRep G sh c xc) (ht:CRep G sh t xt) (he:ORep G sh e xe):IRep G sh (.ite c t e) (.func (.func 398) #[] #[bp q1,bp q2,bp q3])
 |setL (sh:List Nat) (u i:Nat) (a:Ex) (q1 q2:Nat) (xa xs:Vu) (h1:G.I q1=some (.cells #[xa] 241 (0,0))) (h2:G.I q2=some (.cells #[xs] 413 (0,0))) (ha:CRep G sh a xa) (hs:TRep G sh (.loc u i) xs):IRep G sh (.setL u i a) (.func (.func 355) #[] #[bp q1,bp q2])
 |setG (sh:List Nat) (s:Bs) (a:Ex) (q1 q2:Nat) (xa xs:Vu) (h1:G.I q1=some (.cells #[xa] 241 (0,0))) (h2:G.I q2=some (.cells #[xs] 413 (0,0))) (ha:CRep G sh a xa) (hs:TRep G sh (.glo s) xs):IRep G sh (.setG s a) (.func (.func 355) #[] #[bp q1,bp q2])
 |defG (sh:List Nat) (s:Bs) (a:Ex) (q1 q2:Nat) (xa xs:Vu) (h1:G.I q1=some (.cells #[xa] 241 (0,0))) (h2:G.I q2=some (.cells #[xs] 413 (0,0))) (ha:CRep G sh a xa) (hs:TRep G sh (.def' s) xs):IRep G sh (.defG s a) (.func (.func 355) #[] #[bp q1,bp q2])
 |lam (sh:List Nat) (n:Nat) (r:Bool) (l:List Ex) (q1 q2 q3:Nat) (xb xl:Vu) (h1:G.mbox q1) (h2:G.I q2=some (.cells #[xl] 241 (0,0))) (h3:G.I q3=some (.cells #[xb] 440 (0,0)))
   (hl:SRep G (n::sh) l xl) (hb:BRep G n r xb):IRep G sh (.lam n r l) (.func (.func 382) #[] #[bp q1,bp q2,bp q3])
 |app (sh:List Nat) (f:Ex) (l:List Ex) (q1 q2:Nat) (sl:Vu) (xs:List Vu) (h1:G.mbox q1) (h2:G.I q2=some (.cells #[sl] 426 (0,0))) (hb:xs.length<=90000) (hr:RowI G 241 sl xs) (hx:XRep G sh (f::l) xs):IRep G sh (.app f l) (.func (.func 370) #[] #[bp q1,bp q2])
 |seq (sh:List Nat) (a:Ex) (l:List Ex) (y:Vu) (h:SRep G sh (a::l) y):IRep G sh (.seq a l) y
inductive ORep (G:Gh):List Nat->Option Ex->Vu->Prop where
 |none (sh:List Nat):ORep G sh none (.func (.func 235) #[] #[])
 |some (sh:List Nat) (e:Ex) (x:Vu) (h:CRep G sh e x):ORep G sh (some e) x
inductive SRep (G:Gh):List Nat->List Ex->Vu->Prop where
 |one (sh:List Nat) (e:Ex) (x:Vu) (h:CRep G sh e x):SRep G sh [e] x
 |cons (sh:List Nat) (e a:Ex) (r:List Ex) (q1 q2:Nat) (x y:Vu) (h1:G.I q1=some (.cells #[x] 241 (0,0))) (h2:G.I q2=some (.cells #[y] 241 (0,0))) (h:CRep G sh e x) (hs:SRep G sh (a::r) y):SRep G sh (e::a::r) (.func (.func 384) #[] #[bp q1,bp q2])
inductive XRep (G:Gh):List Nat->List Ex->List Vu->Prop where
 |nil (sh:List Nat):XRep G sh [] []
 |cons (sh:List Nat) (e:Ex) (r:List Ex) (x:Vu) (xs:List Vu) (h:CRep G sh e x) (hs:XRep G sh r xs):XRep G sh (e::r) (x::xs)
end
mutual
theorem CRep.mono{G H:Gh}(h:G.le H):∀{sh e x},CRep G sh e x->CRep H sh e x
 |_,_,_,.step sh e pm pc y a b c=>.step sh e pm pc y (h.mbox a) (h.I b) (IRep.mono h c)
theorem IRep.mono{G H:Gh}(h:G.le H):∀{sh e x},IRep G sh e x->IRep H sh e x
 |_,_,_,.quo sh d q1 q2 q3 e a b c k=>.quo sh d q1 q2 q3 e (h.mbox a) (h.I b) (h.I c) (k.mono h)
 |_,_,_,.loc sh u i n q c d f a=>.loc sh u i n q c d f (h.I a)
 |_,_,_,.glo sh s q b a c=>.glo sh s q b (h.I a) (h.B c)
 |_,_,_,.ite sh c t e q1 q2 q3 xc xe xt a b d hc ht he=>.ite sh c t e q1 q2 q3 xc xe xt (h.I a) (h.I b) (h.I d) (CRep.mono h hc) (CRep.mono h ht) (ORep.mono h he)
 |_,_,_,.setL sh u i a q1 q2 xa xs h1 h2 ha hs=>.setL sh u i a q1 q2 xa xs (h.I h1) (h.I h2) (CRep.mono h ha) (hs.mono h)
 |_,_,_,.setG sh s a q1 q2 xa xs h1 h2 ha hs=>.setG sh s a q1 q2 xa xs (h.I h1) (h.I h2) (CRep.mono h ha) (hs.mono h)
 |_,_,_,.defG sh s a q1 q2 xa xs h1 h2 ha hs=>.defG sh s a q1 q2 xa xs (h.I h1) (h.I h2) (CRep.mono h ha) (hs.mono h)
 |_,_,_,.lam sh n r l q1 q2 q3 xb xl h1 h2 h3 hl hb=>.lam sh n r l q1 q2 q3 xb xl (h.mbox h1) (h.I h2) (h.I h3) (SRep.mono h hl) (hb.mono h)
 |_,_,_,.app sh f l q1 q2 sl xs h1 h2 hb hr hx=>.app sh f l q1 q2 sl xs (h.mbox h1) (h.I h2) hb (hr.mono h) (XRep.mono h hx)
 |_,_,_,.seq sh a l y hs=>.seq sh a l y (SRep.mono h hs)
theorem ORep.mono{G H:Gh}(h:G.le H):∀{sh e x},ORep G sh e x->ORep H sh e x
 |_,_,_,.none sh=>.none sh
 |_,_,_,.some sh e x a=>.some sh e x (CRep.mono h a)
theorem SRep.mono{G H:Gh}(h:G.le H):∀{sh e x},SRep G sh e x->SRep H sh e x
 |_,_,_,.one sh e x a=>.one sh e x (CRep.mono h a)
 |_,_,_,.cons sh e a r q1 q2 x y h1 h2 hc hs=>.cons sh e a r q1 q2 x y (h.I h1) (h.I h2) (CRep.mono h hc) (SRep.mono h hs)
theorem XRep.mono{G H:Gh}(h:G.le H):∀{sh e x},XRep G sh e x->XRep H sh e x
 |_,_,_,.nil sh=>.nil sh
 |_,_,_,.cons sh e r x xs a b=>.cons sh e r x xs (CRep.mono h a) (XRep.mono h b)
end
end
section
open Go.RowKit Go.Shelf
open Sc
def Sc.Pm.wrapF:Pm->Nat
 | .add=>257| .sub=>257| .mul=>257| .quot=>257| .rem=>257| .eql=>257| .lss=>257
 | .cons=>270| .car=>271| .cdr=>271| .nullQ=>268| .pairQ=>268| .intQ=>268| .symQ=>268| .strQ=>268| .boolQ=>268| .procQ=>268| .sealQ=>268
 | .not=>268| .eqQ=>270| .equalQ=>270| .list=>204| .length=>268| .append=>270| .strAppend=>274| .strLength=>276| .numStr=>277| .symStr=>278
 | .apply=>280| .callcc=>284| .wind=>286| .error=>268| .seal=>268|_=>0
def Sc.Pm.workF:Pm->Nat
 | .add=>178| .sub=>179| .mul=>180| .quot=>181| .rem=>182| .eql=>183| .lss=>184
 | .cons=>199| .car=>202| .cdr=>203| .nullQ=>260| .pairQ=>261| .intQ=>262| .symQ=>263| .strQ=>264| .boolQ=>265| .procQ=>266| .sealQ=>267
 | .not=>194| .eqQ=>196| .equalQ=>197| .length=>205| .append=>208| .strAppend=>211| .strLength=>215| .numStr=>217| .symStr=>220
 | .error=>224| .seal=>225|_=>0
def Sc.Pm.workT:Pm->Nat
 | .add=>283| .sub=>283| .mul=>283| .quot=>283| .rem=>283| .eql=>283| .lss=>283
 | .cons=>289| .car=>293| .cdr=>293| .nullQ=>287| .pairQ=>287| .intQ=>287| .symQ=>287| .strQ=>287| .boolQ=>287| .procQ=>287| .sealQ=>287
 | .not=>287| .eqQ=>289| .equalQ=>289| .length=>287| .append=>289| .strAppend=>306| .strLength=>308| .numStr=>310| .symStr=>312
 | .error=>287| .seal=>287|_=>0
def Sc.Pm.form:Pm->Nat
 | .cons=>1| .equalQ=>1| .length=>1| .append=>1| .strAppend=>1| .numStr=>1| .symStr=>1| .seal=>1
 | .list=>2| .apply=>2| .callcc=>2| .wind=>2
 | .write=>3| .readLine=>3| .tick=>3| .roll=>3| .unseal=>3
 |_=>0
inductive PRep (G:Gh):Pm->Vu->Prop where
 |bare (p:Pm) (q:Nat) (hf:p.form=0) (h:G.I q=some (.cells #[.func (.func p.workF) #[] #[]] p.workT (0,0))):PRep G p (.func (.func p.wrapF) #[] #[bp q])
 |mach (p:Pm) (q r:Nat) (hf:p.form=1) (h:G.I q=some (.cells #[.func (.func p.workF) #[] #[bp r]] p.workT (0,0))) (hr:G.mbox r):PRep G p (.func (.func p.wrapF) #[] #[bp q])
 |self (p:Pm) (q:Nat) (hf:p.form=2) (h:G.mbox q):PRep G p (.func (.func p.wrapF) #[] #[bp q])
theorem PRep.mono{G H:Gh}(h:G.le H):∀{p x},PRep G p x->PRep H p x
 |_,_,.bare p q a b=>.bare p q a (h.I b)
 |_,_,.mach p q r a b c=>.mach p q r a (h.I b) (h.mbox c)
 |_,_,.self p q a b=>.self p q a (h.mbox b)
mutual
inductive VRep (G:Gh):Vl->Vu->Prop where
 |num (n:Int) (h0:-9223372036854775808<=n) (h1:n<=9223372036854775807):VRep G (.num n) (.iface 180 (.int .i64 n))
 |bool (b:Bool):VRep G (.bool b) (.iface 181 (.bool b))
 |str (t:BA) (hz:t.size<=1000000000):VRep G (.str t.data.toList) (.iface 182 (.string t))
 |sym (t:BA) (hz:t.size<=1000000000):VRep G (.sym t.data.toList) (.iface 183 (.string t))
 |nil:VRep G .nil (.iface 186 (.agg #[]))
 |none:VRep G .none (.iface 379 (.agg #[]))
 |pair (id b:Nat) (v u:Vl) (x y:Vu) (hj:G.J[id]? =some b) (hb:G.I b=some (.cells #[x,y] 252 (0,0))) (h1:VRep G v x) (h2:VRep G u y):VRep G (.pair id v u) (.iface 246 (bp b))
 |proc (v:Vl) (b:Nat) (h:QRep G v b):VRep G v (.iface 281 (bp b))
 |seal (id b q:Nat) (v:Vl) (x:Vu) (hj:G.J[id]? =some b) (hb:G.I b=some (.cells #[.func (.func 226) #[] #[bp q]] 316 (0,0))) (hq:G.I q=some (.cells #[x] 116 (0,0))) (h:VRep G v x):VRep G (.seal id v) (.iface 285 (bp b))
 |sealD (id b q1 q2:Nat) (d:Dt) (e:Dl) (hj:G.J[id]? =some b) (hb:G.I b=some (.cells #[.func (.func 228) #[] #[bp q1,bp q2]] 316 (0,0))) (h1:G.mbox q1) (h2:G.I q2=some (.cells e.cells 134 (0,0))) (h:DRep G d e):VRep G (.sealD id d) (.iface 285 (bp b))
 |grant (n:Nat) (h:G.I (G.K n)=some (.cells #[.int .i64 (n:Int)] 324 (0,0))):VRep G (.grant n) (.iface 322 (bp (G.K n)))
inductive QRep (G:Gh):Vl->Nat->Prop where
 |lam (sh:List Nat) (id n:Nat) (r:Bool) (l:List Ex) (env:Option Nat) (b q1 q2 q3:Nat) (xl xb:Vu) (pf:OA) (hj:G.J[id]? =some b) (hb:G.I b=some (.cells #[.func (.func 383) #[] #[bp q1,bp q2,bp q3]] 300 (0,0)))
   (h1:G.I q1=some (.cells #[xl] 241 (0,0))) (h2:G.I q2=some (.cells #[xb] 440 (0,0))) (h3:G.I q3=some (.cells #[.pointer pf] 378 (0,0))) (hl:SRep G (n::sh) l xl) (hx:BRep G n r xb) (he:NRep G env pf) (hs:Sh G sh pf):QRep G (.lam id n r l env) b
 |prim (p:Pm) (x:Vu) (hb:G.I (G.P p)=some (.cells #[x] 300 (0,0))) (hp:PRep G p x):QRep G (.prim p) (G.P p)
 |cont (id:Nat) (k:List Fr) (ws:List Wn) (b q1 q2 q3:Nat) (u:Vu) (wp:OA) (hj:G.J[id]? =some b) (hb:G.I b=some (.cells #[.func (.func 312) #[] #[bp q1,bp q2,bp q3]] 300 (0,0)))
   (h1:G.mbox q1) (h2:G.I q2=some (.cells #[.pointer wp] 117 (0,0))) (h3:G.I q3=some (.cells #[u] 295 (0,0))) (hk:FRep G k u) (hw:WRep G ws wp):QRep G (.cont id k ws) b
inductive FRep (G:Gh):List Fr->Vu->Prop where
 |nil (q:Nat) (h:G.mbox q):FRep G [] (.func (.func 230) #[] #[bp q])
 |ite (sh:List Nat) (t:Ex) (e:Option Ex) (env:Option Nat) (k:List Fr) (q1 q2 q3 q4:Nat) (xe xt u:Vu) (pf:OA) (h1:G.I q1=some (.cells #[xe] 241 (0,0))) (h2:G.I q2=some (.cells #[.pointer pf] 378 (0,0))) (h3:G.I q3=some (.cells #[u] 295 (0,0))) (h4:G.I q4=some (.cells #[xt] 241 (0,0)))
   (ht:CRep G sh t xt) (he:ORep G sh e xe) (hn:NRep G env pf) (hs:Sh G sh pf) (hk:FRep G k u):FRep G (.ite t e env::k) (.func (.func 399) #[] #[bp q1,bp q2,bp q3,bp q4])
 |set (sh:List Nat) (t:Tg) (env:Option Nat) (k:List Fr) (q1 q2 q3:Nat) (xs u:Vu) (pf:OA) (h1:G.I q1=some (.cells #[xs] 413 (0,0))) (h2:G.I q2=some (.cells #[.pointer pf] 378 (0,0))) (h3:G.I q3=some (.cells #[u] 295 (0,0)))
   (ht:TRep G sh t xs) (hn:NRep G env pf) (hs:Sh G sh pf) (hk:FRep G k u):FRep G (.set t env::k) (.func (.func 356) #[] #[bp q1,bp q2,bp q3])
 |body (sh:List Nat) (l:List Ex) (env:Option Nat) (k:List Fr) (q1 q2 q3:Nat) (xl u:Vu) (pf:OA) (h1:G.I q1=some (.cells #[xl] 241 (0,0))) (h2:G.I q2=some (.cells #[.pointer pf] 378 (0,0))) (h3:G.I q3=some (.cells #[u] 295 (0,0)))
   (hl:SRep G sh l xl) (hn:NRep G env pf) (hs:Sh G sh pf) (hk:FRep G k u):FRep G (.body l env::k) (.func (.func 385) #[] #[bp q1,bp q2,bp q3])
 |app (sh:List Nat) (vs:List Vl) (l:List Ex) (env:Option Nat) (k:List Fr) (q1 q2 q3 q4 q5 q6 q7:Nat) (sl x0 u:Vu) (xs:List Vu) (pf pd:OA) (h1:G.mbox q1) (h2:G.I q2=some (.cells #[sl] 426 (0,0))) (h3:G.I q3=some (.cells #[.pointer pf] 378 (0,0)))
   (h4:G.I q4=some (.cells #[.pointer pd] 470 (0,0))) (h5:G.I q5=some (.cells #[.func (.func 372) #[] #[bp q6,bp q7]] 450 (0,0))) (h6:G.mbox q6) (h7:G.I q7=some (.cells #[u] 295 (0,0)))
   (hb:vs.length+xs.length<=90000) (hr:RowI G 241 sl (x0::xs)) (hx:XRep G sh l xs) (hc:HRep G vs.reverse pd) (hn:NRep G env pf) (hs:Sh G sh pf) (hk:FRep G k u):FRep G (.app vs l env::k) (.func (.func 396) #[] #[bp q1,bp q2,bp q3,bp q4,bp q5])
 |wind1 (a b c:Vl) (k:List Fr) (q1 q2 q3 q4 q5 ba bb bc:Nat) (u:Vu) (h1:G.mbox q1) (h2:G.I q2=some (.cells #[bp ba] 281 (0,0))) (h3:G.I q3=some (.cells #[bp bc] 281 (0,0))) (h4:G.I q4=some (.cells #[bp bb] 281 (0,0))) (h5:G.I q5=some (.cells #[u] 295 (0,0)))
   (ha:QRep G a ba) (hb:QRep G b bb) (hc:QRep G c bc) (hk:FRep G k u):FRep G (.wind1 a b c::k) (.func (.func 315) #[] #[bp q1,bp q2,bp q3,bp q4,bp q5])
 |wind2 (c:Vl) (ws:List Wn) (k:List Fr) (q1 q2 q3 q4 bc:Nat) (u:Vu) (wp:OA) (h1:G.I q1=some (.cells #[.pointer wp] 117 (0,0))) (h2:G.mbox q2) (h3:G.I q3=some (.cells #[bp bc] 281 (0,0))) (h4:G.I q4=some (.cells #[u] 295 (0,0)))
   (hw:WRep G ws wp) (hc:QRep G c bc) (hk:FRep G k u):FRep G (.wind2 c ws::k) (.func (.func 316) #[] #[bp q1,bp q2,bp q3,bp q4])
 |wind3 (v:Vl) (k:List Fr) (q1 q2:Nat) (x u:Vu) (h1:G.I q1=some (.cells #[u] 295 (0,0))) (h2:G.I q2=some (.cells #[x] 116 (0,0))) (hv:VRep G v x) (hk:FRep G k u):FRep G (.wind3 v::k) (.func (.func 317) #[] #[bp q1,bp q2])
 |back (ws:List Wn) (v:Vl) (k r:List Fr) (q1 q2 q3 q4 q5:Nat) (sl x u:Vu) (wp:OA) (h1:G.mbox q1) (h2:G.I q2=some (.cells #[.pointer wp] 117 (0,0))) (h3:G.I q3=some (.cells #[.func (.func 314) #[] #[bp q4,bp q5]] 297 (0,0)))
   (h4:G.I q4=some (.cells #[u] 295 (0,0))) (h5:G.I q5=some (.cells #[sl] 184 (0,0))) (hr:RowI G 116 sl [x]) (hv:VRep G v x) (hw:WRep G ws wp) (hk:FRep G k u):FRep G (.back ws v k::r) (.func (.func 351) #[] #[bp q1,bp q2,bp q3])
 |into (now ws:List Wn) (v:Vl) (k r:List Fr) (q1 q2 q3:Nat) (y:Vu) (np:OA) (h1:G.I q1=some (.cells #[.pointer np] 117 (0,0))) (h2:G.mbox q2) (h3:G.I q3=some (.cells #[y] 294 (0,0)))
   (hn:WRep G now np) (hy:FRep G (.back ws v k::r) y):FRep G (.into now ws v k::r) (.func (.func 353) #[] #[bp q1,bp q2,bp q3])
inductive HRep (G:Gh):List Vl->Option Addr->Prop where
 |nil:HRep G [] none
 |cons (v:Vl) (r:List Vl) (b:Nat) (x:Vu) (pd:OA) (hb:G.I b=some (.cells #[x,.pointer pd,.int .i64 ((r.length:Int)+1)] 485 (0,0))) (hv:VRep G v x) (hr:HRep G r pd):HRep G (v::r) (some ⟨b,0,none⟩)
inductive WRep (G:Gh):List Wn->Option Addr->Prop where
 |nil:WRep G [] none
 |cons (id:Nat) (a c:Vl) (r:List Wn) (b ba bc:Nat) (pd:OA) (hj:G.J[id]? =some b) (hb:G.I b=some (.cells #[bp ba,bp bc,.pointer pd] 393 (0,0))) (ha:QRep G a ba) (hc:QRep G c bc) (hr:WRep G r pd):WRep G (.mk id a c::r) (some ⟨b,0,none⟩)
end
mutual
theorem VRep.mono{G H:Gh}(h:G.le H):∀{v x},VRep G v x->VRep H v x
 |_,_,.num n a b=>.num n a b
 |_,_,.bool b=>.bool b
 |_,_,.str t z=>.str t z
 |_,_,.sym t z=>.sym t z
 |_,_,.nil=>.nil
 |_,_,.none=>.none
 |_,_,.pair id b v u x y hj hb h1 h2=>.pair id b v u x y (h.J hj) (h.I hb) (VRep.mono h h1) (VRep.mono h h2)
 |_,_,.proc v b a=>.proc v b (QRep.mono h a)
 |_,_,.seal id b q v x hj hb hq a=>.seal id b q v x (h.J hj) (h.I hb) (h.I hq) (VRep.mono h a)
 |_,_,.sealD id b q1 q2 d e hj hb h1 h2 a=>.sealD id b q1 q2 d e (h.J hj) (h.I hb) (h.mbox h1) (h.I h2) (a.mono h)
 |_,_,.grant n a=>by have:=VRep.grant (G:=H) n (by rw[h.K];exact h.I a);rw[h.K]at this;exact this
theorem QRep.mono{G H:Gh}(h:G.le H):∀{v x},QRep G v x->QRep H v x
 |_,_,.lam sh id n r l env b q1 q2 q3 xl xb pf hj hb h1 h2 h3 hl hx he hs=>.lam sh id n r l env b q1 q2 q3 xl xb pf (h.J hj) (h.I hb) (h.I h1) (h.I h2) (h.I h3) (hl.mono h) (hx.mono h) (he.mono h) (hs.mono h)
 |_,_,.prim p x hb hp=>by have:=QRep.prim (G:=H) p x (by rw[h.P];exact h.I hb) (hp.mono h);rw[h.P]at this;exact this
 |_,_,.cont id k ws b q1 q2 q3 u wp hj hb h1 h2 h3 hk hw=>.cont id k ws b q1 q2 q3 u wp (h.J hj) (h.I hb) (h.mbox h1) (h.I h2) (h.I h3) (FRep.mono h hk) (WRep.mono h hw)
theorem FRep.mono{G H:Gh}(h:G.le H):∀{v x},FRep G v x->FRep H v x
 |_,_,.nil q a=>.nil q (h.mbox a)
 |_,_,.ite sh t e env k q1 q2 q3 q4 xe xt u pf h1 h2 h3 h4 ht he hn hs hk=>.ite sh t e env k q1 q2 q3 q4 xe xt u pf (h.I h1) (h.I h2) (h.I h3) (h.I h4) (ht.mono h) (he.mono h) (hn.mono h) (hs.mono h) (FRep.mono h hk)
 |_,_,.set sh t env k q1 q2 q3 xs u pf h1 h2 h3 ht hn hs hk=>.set sh t env k q1 q2 q3 xs u pf (h.I h1) (h.I h2) (h.I h3) (ht.mono h) (hn.mono h) (hs.mono h) (FRep.mono h hk)
 |_,_,.body sh l env k q1 q2 q3 xl u pf h1 h2 h3 hl hn hs hk=>.body sh l env k q1 q2 q3 xl u pf (h.I h1) (h.I h2) (h.I h3) (hl.mono h) (hn.mono h) (hs.mono h) (FRep.mono h hk)
 |_,_,.app sh vs l env k q1 q2 q3 q4 q5 q6 q7 sl x0 u xs pf pd h1 h2 h3 h4 h5 h6 h7 hb hr hx hc hn hs hk=>.app sh vs l env k q1 q2 q3 q4 q5 q6 q7 sl x0 u xs pf pd (h.mbox h1) (h.I h2) (h.I h3) (h.I h4) (h.I h5) (h.mbox h6) (h.I h7) hb (hr.mono h) (hx.mono h) (HRep.mono h hc) (hn.mono h) (hs.mono h) (FRep.mono h hk)
 |_,_,.wind1 a b c k q1 q2 q3 q4 q5 ba bb bc u h1 h2 h3 h4 h5 ha hb hc hk=>.wind1 a b c k q1 q2 q3 q4 q5 ba bb bc u (h.mbox h1) (h.I h2) (h.I h3) (h.I h4) (h.I h5) (QRep.mono h ha) (QRep.mono h hb) (QRep.mono h hc) (FRep.mono h hk)
 |_,_,.wind2 c ws k q1 q2 q3 q4 bc u wp h1 h2 h3 h4 hw hc hk=>.wind2 c ws k q1 q2 q3 q4 bc u wp (h.I h1) (h.mbox h2) (h.I h3) (h.I h4) (WRep.mono h hw) (QRep.mono h hc) (FRep.mono h hk)
 |_,_,.wind3 v k q1 q2 x u h1 h2 hv hk=>.wind3 v k q1 q2 x u (h.I h1) (h.I h2) (VRep.mono h hv) (FRep.mono h hk)
 |_,_,.back ws v k r q1 q2 q3 q4 q5 sl x u wp h1 h2 h3 h4 h5 hr hv hw hk=>.back ws v k r q1 q2 q3 q4 q5 sl x u wp (h.mbox h1) (h.I h2) (h.I h3) (h.I h4) (h.I h5) (hr.mono h) (VRep.mono h hv) (WRep.mono h hw) (FRep.mono h hk)
 |_,_,.into now ws v k r q1 q2 q3 y np h1 h2 h3 hn hy=>.into now ws v k r q1 q2 q3 y np (h.I h1) (h.mbox h2) (h.I h3) (WRep.mono h hn) (FRep.mono h hy)
theorem HRep.mono{G H:Gh}(h:G.le H):∀{v x},HRep G v x->HRep H v x
 |_,_,.nil=>.nil
 |_,_,.cons v r b x pd hb hv hr=>.cons v r b x pd (h.I hb) (VRep.mono h hv) (HRep.mono h hr)
theorem WRep.mono{G H:Gh}(h:G.le H):∀{v x},WRep G v x->WRep H v x
 |_,_,.nil=>.nil
 |_,_,.cons id a c r b ba bc pd hj hb ha hc hr=>.cons id a c r b ba bc pd (h.J hj) (h.I hb) (QRep.mono h ha) (QRep.mono h hc) (WRep.mono h hr)
end
end
section
open Go.RowKit Go.Shelf
open Sc
def Eg(k:Nat):Prop:=∀args w,(callFunc k args).run prog w=.ok (.enter k args) w
theorem qa0{k:Nat}{a:Func}(b:prog.funcs[k]? =some a)(c:(a.name== "runtime.NumGoroutine")=false)(d:a.body.isNone=false):Eg k:=by
 intro args w;have f:¬a.name= "runtime.NumGoroutine" :=by simpa using c
 have g:¬a.body=none:=by intro e;simp[e]at d
 simp[callFunc,b,f,g]
def qex:Vu->List Nat
 | .slice (some a) (_+1) _=>[a.block]
 |_=>[]
def Gh.rows(G:Gh):List Nat:=G.E.flatMap λp=>qex p.2
def Gh.mut(G:Gh):List Nat:=G.mb::G.sb::G.cb::G.mp::(G.B.map (·.2)++G.rows)
def Gh.add(G:Gh)(b:Nat)(o:Obj):Gh:={G with I:=λc=>if c=b then some o else G.I c}
def ERow(G:Gh)(h:Array Obj)(sv:Vu)(vs:List Vl):Prop:=
 (vs=[]/\∃a cap,sv=.slice a 0 cap)\/
 ∃g o cap arr,sv=.slice (some ⟨g,o,none⟩) vs.length cap/\vs≠[]/\h[g]? =some (.cells arr 116 (0,0))/\∀i v,vs[i]? =some v->∃x,arr[o+i]? =some x/\VRep G v x
def GVal(G:Gh)(o:Option Vl)(x:Vu):Prop:=match o with
 |none=>x=.nilIface
 |some v=>VRep G v x
structure Inv (G:Gh) (S:Sub) (m:Mc) (w:Wd):Prop where
 imm:∀{b:Nat} {o:Obj},G.I b=some o->w.heap[b]? =some o
 nd:G.mut.Nodup
 mi:∀{b:Nat},b∈G.mut->G.I b=none
 ml:∀{b:Nat},b∈G.mut->b<w.heap.size
 st:Mt G.sb m.steps S.fuel 10 w
 ce:Mt G.cb m.cells S.quota 11 w
 sl:(m.steps:Int)<=S.fuel/\S.fuel<=20000
 cl:(m.cells:Int)<=S.quota/\S.quota<=5000
 ma:∃gv wp,w.heap[G.mb]? =some (.cells #[bp G.sb,bp G.cb,.map (some G.mp),gv,.pointer wp] 119 (0,0))/\WRep G m.wnd wp
 mp:∃es clock,w.heap[G.mp]? =some (.map es clock)/\es.toList.map (λe=>(e.key,e.val))=G.B.map (λp=>(Value.string ⟨p.1.toArray⟩,bp p.2))
 gl:∀{s:Bs} {b:Nat},(s,b)∈G.B->∃x,w.heap[b]? =some (.cells #[x] 318 (0,0))/\GVal G (lookup s m.glob) x
 gd:∀{s:Bs} {v:Vl},lookup s m.glob=some v->∃b,(s,b)∈G.B
 gk:(G.B.map (·.1)).Nodup
 en:∀{i:Nat} {vs:List Vl} {e:Option Nat},m.envs[i]? =some (vs,e)->∃fb sv pf,G.E[i]? =some (fb,sv)/\G.I fb=some (.cells #[sv,.pointer pf] 461 (0,0))/\NRep G e pf/\ERow G w.heap sv vs
 el:G.E.length=m.envs.length
 jl:G.J.length=m.ids
 jn:G.J.Nodup
 ji:∀{b:Nat},b∈G.J->∃o,G.I b=some o
 fo:w.os=G.W.os/\w.tape=G.W.tape/\w.output=G.W.output
 ff:∀{b:Nat},G.F b->w.heap[b]? =G.W.heap[b]?/\b<w.heap.size
 fm:∀{b:Nat},b∈G.mut->¬G.F b
 fi:∀{b:Nat},G.F b->G.I b=none
theorem Inv.lk{G:Gh}{m:Mc}(h:Lk w w')(i:Inv G S m w):Inv G S m w':=by
 have e:=h.heap;obtain⟨t,x,y,u,g,j,z,A,v,a,b,k,l,c,n,o,p,q,d,f,r,s⟩:=i;unfold Mt at g j;rw[<-e]at t u g j v a b c f;rw[<-h.os,<-h.tape,<-h.output]at d;exact⟨t,x,y,u,g,j,z,A,v,a,b,k,l,c,n,o,p,q,d,f,r,s⟩
theorem Gh.le_add{G:Gh}{o:Obj}(h:G.I b=none):G.le (G.add b o):=
 ⟨fun {c x} a=>by
  show(if c=b then some o else G.I c)=some x;by_cases e:c=b
  ·subst e;rw[h]at a;cases a
  ·rw[if_neg e];exact a,id,id,id,rfl,rfl,rfl,rfl,rfl,rfl⟩
theorem Gh.add_at(G:Gh)(b:Nat)(o:Obj):(G.add b o).I b=some o:=if_pos rfl
theorem ERow.mono{G H:Gh}(h:G.le H){a b:Array Obj}{c:Vu}{vs:List Vl}(d:∀g o n cap,c=.slice (some ⟨g,o,none⟩) (n+1) cap->b[g]? =a[g]?):ERow G a c vs->ERow H b c vs
 | .inl x=>.inl x
 | .inr ⟨g,o,cap,arr,h1,h2,h3,h4⟩=>.inr ⟨g,o,cap,arr,h1,h2,by
   obtain⟨v,r,rfl⟩:=List.exists_cons_of_ne_nil h2;rw[d g o r.length cap (by rw[h1];rfl)];exact h3,λi v e=>by obtain⟨x,e1,e2⟩:=h4 i v e;exact⟨x,e1,e2.mono h⟩⟩
theorem GVal.mono{G H:Gh}(h:G.le H){o:Option Vl}{x:Vu}(a:GVal G o x):GVal H o x:=by
 cases o with
 |none=>exact a
 |some v=>exact VRep.mono h a
theorem qe1{G:Gh}{i a cap:Nat}(h:G.E[i]? =some (a,.slice (some ⟨g,o,none⟩) (n+1) cap)):g∈G.rows:=
 List.mem_flatMap.2 ⟨_,List.mem_of_getElem? h,List.mem_singleton.2 rfl⟩
theorem Inv.grow{G H:Gh}{m:Mc}(i:Inv G S m w)(p:Below w.heap.size w w')(h:G.le H)(u:H.J=G.J)(y:H.E=G.E)(q:H.B=G.B)(A:H.W=G.W)(hF:H.F=G.F)
  (hI:∀{b o},H.I b=some o->G.I b=some o\/(w.heap.size<=b/\w'.heap[b]? =some o)):Inv H S m w':=by
 have t:H.mut=G.mut:=by simp only[Gh.mut,Gh.rows,h.mb,h.sb,h.cb,h.mp,y,q]
 have keep:∀{b:Nat},b∈G.mut->w'.heap[b]? =w.heap[b]?:=λf=>p.block _ (i.ml f)
 have m1:G.mb∈G.mut:=by simp[Gh.mut]
 have m2:G.sb∈G.mut:=by simp[Gh.mut]
 have m3:G.cb∈G.mut:=by simp[Gh.mut]
 have m4:G.mp∈G.mut:=by simp[Gh.mut]
 refine⟨?_,by rw[t];exact i.nd,?_,?_,?_,?_,i.sl,i.cl,?_,?_,?_,?_,by rw[q];exact i.gk,?_,by rw[y];exact i.el,by rw[u];exact i.jl,by rw[u];exact i.jn,?_,?_,?_,?_,?_⟩
 ·intro b o f;rcases hI f with f|⟨_,f⟩
  ·have:=i.imm f;rw[p.block b (eE.1 this).1];exact this
  ·exact f
 ·intro b f;rw[t]at f;rcases hc:H.I b with _|o
  ·rfl
  ·rcases hI hc with l|⟨l,_⟩
   ·rw[i.mi f]at l;cases l
   ·have:=i.ml f;omega
 ·intro b f;rw[t]at f;exact eW (i.ml f) p.size
 ·unfold Mt;rw[h.sb,keep m2];exact i.st
 ·unfold Mt;rw[h.cb,keep m3];exact i.ce
 ·obtain⟨D,K,a,b⟩:=i.ma;exact⟨D,K,by rw[h.mb,h.sb,h.cb,h.mp,keep m1];exact a,b.mono h⟩
 ·obtain⟨es,c,a,b⟩:=i.mp;exact⟨es,c,by rw[h.mp,keep m4];exact a,by rw[q];exact b⟩
 ·intro s b r;rw[q]at r;obtain⟨x,a,k⟩:=i.gl r;refine⟨x,?_,k.mono h⟩;rw[keep (by simp only[Gh.mut,List.mem_cons,List.mem_append,List.mem_map];exact .inr (.inr (.inr (.inr (.inl ⟨_,r,rfl⟩)))))];exact a
 ·intro s v r;rw[q];exact i.gd r
 ·intro j vs e L;obtain⟨M,N,O,a,b,c,d⟩:=i.en L;refine⟨M,N,O,by rw[y];exact a,h.I b,c.mono h,d.mono h λg o n cap z=>?_⟩;subst z;exact keep (by simp only[Gh.mut,List.mem_cons,List.mem_append];exact .inr (.inr (.inr (.inr (.inr (qe1 a))))))
 ·intro b f;rw[u]at f;obtain⟨o,P⟩:=i.ji f;exact⟨o,h.I P⟩
 ·rw[A,p.os,p.tape,p.output];exact i.fo
 ·intro b f;rw[hF]at f;obtain⟨l,C⟩:=i.ff f;rw[A,p.block b C];exact⟨l,eW C p.size⟩
 ·intro b f;rw[t]at f;rw[hF];exact i.fm f
 ·intro b f;rw[hF]at f;rcases hc:H.I b with _|o
  ·rfl
  ·rcases hI hc with l|⟨l,_⟩
   ·rw[i.fi f]at l;cases l
   ·have:=(i.ff f).2;omega
theorem Inv.fresh{G:Gh}{m:Mc}(i:Inv G S m w)(a:w.heap.size<=b):G.I b=none:=by
 rcases h:G.I b with _|o
 ·rfl
 ·have:=(eE.1 (i.imm h)).1;omega
theorem Inv.alloc{G:Gh}{m:Mc}(i:Inv G S m w)(o:Obj):Inv (G.add w.heap.size o) S m (w.alloc o):=
 i.grow ((Below.refl _ _).alloc (eR _) _) (Gh.le_add (i.fresh (eR _))) rfl rfl rfl rfl rfl fun {b x} a=>by
  by_cases e:b=w.heap.size
  ·subst e;rw[Gh.add_at]at a;cases a;exact .inr ⟨eR _,eN _ _⟩
  ·left;have:(if b=w.heap.size then some o else G.I b)=some x:=a;rw[if_neg e]at this;exact this
theorem Inv.below{G:Gh}{m:Mc}(i:Inv G S m w)(a:Below w.heap.size w w'):Inv G S m w':=i.grow a (Gh.le.refl _) rfl rfl rfl rfl rfl .inl
theorem Inv.cell{G:Gh}{m:Mc}(i:Inv G S m w){c:Array Vu}{t:Nat}(h:G.I b=some (.cells c t (0,0)))(o:Nat):w.cell? ⟨b,o,Option.none⟩=c[o]?:=by
 simp[World.cell?,i.imm h]
end
end Go.Proofs.YtldaocpojcfljaaGreatDoor
