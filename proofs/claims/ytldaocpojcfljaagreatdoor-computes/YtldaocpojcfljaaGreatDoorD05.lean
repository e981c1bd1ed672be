import Derived.Test.YtldaocpojcfljaaGreatDoorD04
import Derived.Deep.RegionHeld2
set_option maxRecDepth 100000
set_option maxHeartbeats 4000000
namespace Go.Proofs.YtldaocpojcfljaaGreatDoor
open Tryz hiding parts
open Go.RowKit Go.Shelf
section
open Sc
abbrev bp(b:Nat):Value:=.pointer (some ⟨b,0,none⟩)
structure Gh where
 I:Nat->Option Obj
 J:List Nat
 E:List (Nat×Value)
 B:List (Bs×Nat)
 P:Pm->Nat
 K:Nat->Nat
 mb:Nat
 sb:Nat
 cb:Nat
 mp:Nat
 W:World
 F:Nat->Prop
structure Gh.le (G H:Gh):Prop where
 I:∀{b:Nat} {o:Obj},G.I b=some o->H.I b=some o
 J:∀{i b:Nat},G.J[i]? =some b->H.J[i]? =some b
 E:∀{i:Nat} {p:Nat×Value},G.E[i]? =some p->H.E[i]? =some p
 B:∀{s:Bs} {b:Nat},(s,b)∈G.B->(s,b)∈H.B
 P:H.P=G.P
 K:H.K=G.K
 mb:H.mb=G.mb
 sb:H.sb=G.sb
 cb:H.cb=G.cb
 mp:H.mp=G.mp
theorem Gh.le.refl(G:Gh):G.le G:=⟨id,id,id,id,rfl,rfl,rfl,rfl,rfl,rfl⟩
theorem Gh.le.trans{G H L:Gh}(a:G.le H)(b:H.le L):G.le L:=
 ⟨fun h=>b.I (a.I h),fun h=>b.J (a.J h),fun h=>b.E (a.E h),fun h=>b.B (a.B h),b.P.trans a.P,b.K.trans a.K,b.mb.trans a.mb,b.sb.trans a.sb,b.cb.trans a.cb,b.mp.trans a.mp⟩
abbrev Gh.mbox(G:Gh)(q:Nat):Prop:=G.I q=some (.cells #[bp G.mb] 107 (0,0))
theorem Gh.le.mbox{G H:Gh}(h:G.le H){q:Nat}(a:G.mbox q):H.mbox q:=by unfold Gh.mbox;rw[h.mb];exact h.I a
inductive NRep (G:Gh):Option Nat->Option Addr->Prop where
 |none:NRep G none none
 |some (i fb:Nat) (sv:Value) (h:G.E[i]? =some (fb,sv)):NRep G (some i) (some ⟨fb,0,none⟩)
theorem NRep.mono{G H:Gh}(h:G.le H):∀{e p},NRep G e p->NRep H e p
 |_,_,.none=>.none
 |_,_,.some i fb sv a=>.some i fb sv (h.E a)
inductive Sh (G:Gh):List Nat->Option Addr->Prop where
 |nil (p:Option Addr):Sh G [] p
 |cons (n:Nat) (sh:List Nat) (fb:Nat) (a:Option Addr) (cap:Nat) (q:Option Addr) (h:G.I fb=some (.cells #[.slice a n cap,.pointer q] 461 (0,0))) (hs:Sh G sh q):Sh G (n::sh) (some ⟨fb,0,none⟩)
theorem Sh.mono{G H:Gh}(h:G.le H):∀{sh p},Sh G sh p->Sh H sh p
 |_,_,.nil p=>.nil p
 |_,_,.cons n sh fb a cap q x y=>.cons n sh fb a cap q (h.I x) (Sh.mono h y)
inductive BRep (G:Gh):Nat->Bool->Value->Prop where
 |num (n q1 q2:Nat) (h1:G.I q1=some (.cells #[.int .i64 (n:Int)] 3 (0,0))) (h2:G.mbox q2):BRep G n false (.func (.func 363) #[] #[bp q1,bp q2])
 |rest (q:Nat) (h:G.mbox q):BRep G 1 true (.func (.func 358) #[] #[bp q])
theorem BRep.mono{G H:Gh}(h:G.le H):∀{n r x},BRep G n r x->BRep H n r x
 |_,_,_,.num n q1 q2 a b=>.num n q1 q2 (h.I a) (h.mbox b)
 |_,_,_,.rest q a=>.rest q (h.mbox a)
structure Dl where
 k:Int
 n:Int
 tr:Bool
 tx:ByteArray
 m:Int
 a:Option Addr
 len:Nat
 cap:Nat
abbrev Dl.cells(e:Dl):Array Value:=#[.int .i64 e.k,.int .i64 e.n,.bool e.tr,.string e.tx,.int .i64 e.m,.slice e.a e.len e.cap]
mutual
inductive DRep (G:Gh):Dt->Dl->Prop where
 |num (e:Dl) (h:e.k=0) (h0:-9223372036854775808<=e.n) (h1:e.n<=9223372036854775807) (hc:e.len=0/\e.tr=false/\e.tx=⟨#[]⟩):DRep G (.num e.n) e
 |bool (e:Dl) (h:e.k=1) (hc:e.len=0/\e.n=0/\e.tx=⟨#[]⟩):DRep G (.bool e.tr) e
 |str (e:Dl) (h:e.k=2) (hz:e.tx.size<=1000000000) (hc:e.len=0/\e.n=0/\e.tr=false):DRep G (.str e.tx.data.toList) e
 |sym (e:Dl) (h:e.k=3) (hz:e.tx.size<=1000000000) (hc:e.len=0):DRep G (.sym e.tx.data.toList e.m) e
 |nil (e:Dl) (h:e.k=4) (hl:e.len=0):DRep G (.list []) e
 |list (e:Dl) (h:e.k=4) (l:List Dt) (es:List Dl) (g o:Nat) (arr:Array Value) (hl:e.len=es.length) (hc:e.len<=e.cap) (hm:e.len<=30000) (ha:e.a=some ⟨g,o,none⟩) (hg:G.I g=some (.cells arr 134 (0,0)))
   (hr:∀(i j:Nat) (x:Dl),es[i]? =some x->j<6->arr[o+i*6+j]? =x.cells[j]?) (hs:DsRep G l es):DRep G (.list l) e
inductive DsRep (G:Gh):List Dt->List Dl->Prop where
 |nil:DsRep G [] []
 |cons (d:Dt) (r:List Dt) (e:Dl) (es:List Dl) (h:DRep G d e) (hs:DsRep G r es):DsRep G (d::r) (e::es)
end
mutual
theorem DRep.mono{G H:Gh}(h:G.le H):∀{d e},DRep G d e->DRep H d e
 |_,_,.num e a b c d=>.num e a b c d
 |_,_,.bool e a b=>.bool e a b
 |_,_,.str e a b c=>.str e a b c
 |_,_,.sym e a b c=>.sym e a b c
 |_,_,.nil e a b=>.nil e a b
 |_,_,.list e a l es g o arr hl hc hm ha hg hr hs=>.list e a l es g o arr hl hc hm ha (h.I hg) hr (DsRep.mono h hs)
theorem DsRep.mono{G H:Gh}(h:G.le H):∀{d e},DsRep G d e->DsRep H d e
 |_,_,.nil=>.nil
 |_,_,.cons d r e es a b=>.cons d r e es (DRep.mono h a) (DsRep.mono h b)
end
def RowI(G:Gh)(ty:Nat)(sl:Value)(xs:List Value):Prop:=∃g o cap arr,sl=.slice (some ⟨g,o,none⟩) xs.length cap/\G.I g=some (.cells arr ty (0,0))/\xs.length<=cap/\xs.length<=1000000/\∀i x,xs[i]? =some x->arr[o+i]? =some x
theorem RowI.mono{G H:Gh}(h:G.le H){ty:Nat}{sl:Value}{xs:List Value}:RowI G ty sl xs->RowI H ty sl xs
 |⟨g,o,cap,arr,a,b,c,d,e⟩=>⟨g,o,cap,arr,a,h.I b,c,d,e⟩
inductive TRep (G:Gh):List Nat->Tg->Value->Prop where
 |loc (sh:List Nat) (u i n q:Nat) (hs:sh[u]? =some n) (hi:i<n) (hb:u<=1000000000/\n<=1000000000) (h:G.I q=some (.cells #[.int .i64 (u:Int),.int .i64 (i:Int)] 395 (0,0))):TRep G sh (.loc u i) (.func (.func 400) #[] #[bp q])
 |glo (sh:List Nat) (s:Bs) (q b:Nat) (h:G.I q=some (.cells #[bp b] 319 (0,0))) (hb:(s,b)∈G.B):TRep G sh (.glo s) (.func (.func 401) #[] #[bp q])
 |def' (sh:List Nat) (s:Bs) (q1 q2:Nat) (t:ByteArray) (h1:G.mbox q1) (h2:G.I q2=some (.cells #[.string t] 9 (0,0))) (ht:t.data.toList=s):TRep G sh (.def' s) (.func (.func 322) #[] #[bp q1,bp q2])
theorem TRep.mono{G H:Gh}(h:G.le H):∀{sh t x},TRep G sh t x->TRep H sh t x
 |_,_,_,.loc sh u i n q c d f a=>.loc sh u i n q c d f (h.I a)
 |_,_,_,.glo sh s q b a c=>.glo sh s q b (h.I a) (h.B c)
 |_,_,_,.def' sh s q1 q2 t a b c=>.def' sh s q1 q2 t (h.mbox a) (h.I b) c
mutual
inductive CRep (G:Gh):List Nat->Ex->Value->Prop where
 |step (sh:List Nat) (e:Ex) (pm pc:Nat) (y:Value) (h1:G.mbox pm) (h2:G.I pc=some (.cells #[y] 241 (0,0))) (h:IRep G sh e y):CRep G sh e (.func (.func 376) #[] #[bp pm,bp pc])
inductive IRep (G:Gh):List Nat->Ex->Value->Prop where
 |quo (sh:List Nat) (d:Dt) (q1 q2 q3:Nat) (e:Dl) (h1:G.mbox q1) (h2:G.I q2=some (.cells #[.int .i64 (members d:Int)] 3 (0,0))) (h3:G.I q3=some (.cells e.cells 134 (0,0))) (hd:DRep G d e):IRep G sh (.quo d) (.func (.func 340) #[] #[bp q1,bp q2,bp q3])
 |loc (sh:List Nat) (u i n q:Nat) (hs:sh[u]? =some n) (hi:i<n) (hb:u<=1000000000/\n<=1000000000) (h:G.I q=some (.cells #[.int .i64 (u:Int),.int .i64 (i:Int)] 395 (0,0))):IRep G sh (.loc u i) (.func (.func 366) #[] #[bp q])
 |glo (sh:List Nat) (s:Bs) (q b:Nat) (h:G.I q=some (.cells #[bp b] 319 (0,0))) (hb:(s,b)∈G.B):IRep G sh (.glo s) (.func (.func 368) #[] #[bp q])
 |ite (sh:List Nat) (c t:Ex) (e:Option Ex) (q1 q2 q3:Nat) (xc xe xt:Value) (h1:G.I q1=some (.cells #[xc] 241 (0,0))) (h2:G.I q2=some (.cells #[xe] 241 (0,0))) (h3:G.I q3=some (.cells #[xt] 241 (0,0)))
   (hc:CRep G sh c xc) (ht:CRep G sh t xt) (he:ORep G sh e xe):IRep G sh (.ite c t e) (.func (.func 398) #[] #[bp q1,bp q2,bp q3])
 |setL (sh:List Nat) (u i:Nat) (a:Ex) (q1 q2:Nat) (xa xs:Value) (h1:G.I q1=some (.cells #[xa] 241 (0,0))) (h2:G.I q2=some (.cells #[xs] 413 (0,0))) (ha:CRep G sh a xa) (hs:TRep G sh (.loc u i) xs):IRep G sh (.setL u i a) (.func (.func 355) #[] #[bp q1,bp q2])
 |setG (sh:List Nat) (s:Bs) (a:Ex) (q1 q2:Nat) (xa xs:Value) (h1:G.I q1=some (.cells #[xa] 241 (0,0))) (h2:G.I q2=some (.cells #[xs] 413 (0,0))) (ha:CRep G sh a xa) (hs:TRep G sh (.glo s) xs):IRep G sh (.setG s a) (.func (.func 355) #[] #[bp q1,bp q2])
 |defG (sh:List Nat) (s:Bs) (a:Ex) (q1 q2:Nat) (xa xs:Value) (h1:G.I q1=some (.cells #[xa] 241 (0,0))) (h2:G.I q2=some (.cells #[xs] 413 (0,0))) (ha:CRep G sh a xa) (hs:TRep G sh (.def' s) xs):IRep G sh (.defG s a) (.func (.func 355) #[] #[bp q1,bp q2])
 |lam (sh:List Nat) (n:Nat) (r:Bool) (l:List Ex) (q1 q2 q3:Nat) (xb xl:Value) (h1:G.mbox q1) (h2:G.I q2=some (.cells #[xl] 241 (0,0))) (h3:G.I q3=some (.cells #[xb] 440 (0,0)))
   (hl:SRep G (n::sh) l xl) (hb:BRep G n r xb):IRep G sh (.lam n r l) (.func (.func 382) #[] #[bp q1,bp q2,bp q3])
 |app (sh:List Nat) (f:Ex) (l:List Ex) (q1 q2:Nat) (sl:Value) (xs:List Value) (h1:G.mbox q1) (h2:G.I q2=some (.cells #[sl] 426 (0,0))) (hb:xs.length<=90000) (hr:RowI G 241 sl xs) (hx:XRep G sh (f::l) xs):IRep G sh (.app f l) (.func (.func 370) #[] #[bp q1,bp q2])
 |seq (sh:List Nat) (a:Ex) (l:List Ex) (y:Value) (h:SRep G sh (a::l) y):IRep G sh (.seq a l) y
inductive ORep (G:Gh):List Nat->Option Ex->Value->Prop where
 |none (sh:List Nat):ORep G sh none (.func (.func 235) #[] #[])
 |some (sh:List Nat) (e:Ex) (x:Value) (h:CRep G sh e x):ORep G sh (some e) x
inductive SRep (G:Gh):List Nat->List Ex->Value->Prop where
 |one (sh:List Nat) (e:Ex) (x:Value) (h:CRep G sh e x):SRep G sh [e] x
 |cons (sh:List Nat) (e a:Ex) (r:List Ex) (q1 q2:Nat) (x y:Value) (h1:G.I q1=some (.cells #[x] 241 (0,0))) (h2:G.I q2=some (.cells #[y] 241 (0,0))) (h:CRep G sh e x) (hs:SRep G sh (a::r) y):SRep G sh (e::a::r) (.func (.func 384) #[] #[bp q1,bp q2])
inductive XRep (G:Gh):List Nat->List Ex->List Value->Prop where
 |nil (sh:List Nat):XRep G sh [] []
 |cons (sh:List Nat) (e:Ex) (r:List Ex) (x:Value) (xs:List Value) (h:CRep G sh e x) (hs:XRep G sh r xs):XRep G sh (e::r) (x::xs)
end
mutual
theorem CRep.mono{G H:Gh}(h:G.le H):∀{sh e x},CRep G sh e x->CRep H sh e x
 |_,_,_,.step sh e pm pc y a b c=>.step sh e pm pc y (h.mbox a) (h.I b) (IRep.mono h c)
theorem IRep.mono{G H:Gh}(h:G.le H):∀{sh e x},IRep G sh e x->IRep H sh e x
 |_,_,_,.quo sh d q1 q2 q3 e a b c k=>.quo sh d q1 q2 q3 e (h.mbox a) (h.I b) (h.I c) (k.mono h)
 |_,_,_,.loc sh u i n q c d f a=>.loc sh u i n q c d f (h.I a)
 |_,_,_,.glo sh s q b a c=>.glo sh s q b (h.I a) (h.B c)
 |_,_,_,.ite sh c t e q1 q2 q3 xc xe xt a b d hc ht he=>.ite sh c t e q1 q2 q3 xc xe xt (h.I a) (h.I b) (h.I d) (CRep.mono h hc) (CRep.mono h ht) (ORep.mono h he)
 |_,_,_,.setL sh u i a q1 q2 xa xs h1 h2 ha hs=>.setL sh u i a q1 q2 xa xs (h.I h1) (h.I h2) (CRep.mono h ha) (hs.mono h)
 |_,_,_,.setG sh s a q1 q2 xa xs h1 h2 ha hs=>.setG sh s a q1 q2 xa xs (h.I h1) (h.I h2) (CRep.mono h ha) (hs.mono h)
 |_,_,_,.defG sh s a q1 q2 xa xs h1 h2 ha hs=>.defG sh s a q1 q2 xa xs (h.I h1) (h.I h2) (CRep.mono h ha) (hs.mono h)
 |_,_,_,.lam sh n r l q1 q2 q3 xb xl h1 h2 h3 hl hb=>.lam sh n r l q1 q2 q3 xb xl (h.mbox h1) (h.I h2) (h.I h3) (SRep.mono h hl) (hb.mono h)
 |_,_,_,.app sh f l q1 q2 sl xs h1 h2 hb hr hx=>.app sh f l q1 q2 sl xs (h.mbox h1) (h.I h2) hb (hr.mono h) (XRep.mono h hx)
 |_,_,_,.seq sh a l y hs=>.seq sh a l y (SRep.mono h hs)
theorem ORep.mono{G H:Gh}(h:G.le H):∀{sh e x},ORep G sh e x->ORep H sh e x
 |_,_,_,.none sh=>.none sh
 |_,_,_,.some sh e x a=>.some sh e x (CRep.mono h a)
theorem SRep.mono{G H:Gh}(h:G.le H):∀{sh e x},SRep G sh e x->SRep H sh e x
 |_,_,_,.one sh e x a=>.one sh e x (CRep.mono h a)
 |_,_,_,.cons sh e a r q1 q2 x y h1 h2 hc hs=>.cons sh e a r q1 q2 x y (h.I h1) (h.I h2) (CRep.mono h hc) (SRep.mono h hs)
theorem XRep.mono{G H:Gh}(h:G.le H):∀{sh e x},XRep G sh e x->XRep H sh e x
 |_,_,_,.nil sh=>.nil sh
 |_,_,_,.cons sh e r x xs a b=>.cons sh e r x xs (CRep.mono h a) (XRep.mono h b)
end
end
section
open Sc
def Sc.Pm.wrapF:Pm->Nat
 | .add=>257| .sub=>257| .mul=>257| .quot=>257| .rem=>257| .eql=>257| .lss=>257
 | .cons=>270| .car=>271| .cdr=>271| .nullQ=>268| .pairQ=>268| .intQ=>268| .symQ=>268| .strQ=>268| .boolQ=>268| .procQ=>268| .sealQ=>268
 | .not=>268| .eqQ=>270| .equalQ=>270| .list=>204| .length=>268| .append=>270| .strAppend=>274| .strLength=>276| .numStr=>277| .symStr=>278
 | .apply=>280| .callcc=>284| .wind=>286| .error=>268| .seal=>268|_=>0
def Sc.Pm.workF:Pm->Nat
 | .add=>178| .sub=>179| .mul=>180| .quot=>181| .rem=>182| .eql=>183| .lss=>184
 | .cons=>199| .car=>202| .cdr=>203| .nullQ=>260| .pairQ=>261| .intQ=>262| .symQ=>263| .strQ=>264| .boolQ=>265| .procQ=>266| .sealQ=>267
 | .not=>194| .eqQ=>196| .equalQ=>197| .length=>205| .append=>208| .strAppend=>211| .strLength=>215| .numStr=>217| .symStr=>220
 | .error=>224| .seal=>225|_=>0
def Sc.Pm.workT:Pm->Nat
 | .add=>283| .sub=>283| .mul=>283| .quot=>283| .rem=>283| .eql=>283| .lss=>283
 | .cons=>289| .car=>293| .cdr=>293| .nullQ=>287| .pairQ=>287| .intQ=>287| .symQ=>287| .strQ=>287| .boolQ=>287| .procQ=>287| .sealQ=>287
 | .not=>287| .eqQ=>289| .equalQ=>289| .length=>287| .append=>289| .strAppend=>306| .strLength=>308| .numStr=>310| .symStr=>312
 | .error=>287| .seal=>287|_=>0
def Sc.Pm.form:Pm->Nat
 | .cons=>1| .equalQ=>1| .length=>1| .append=>1| .strAppend=>1| .numStr=>1| .symStr=>1| .seal=>1
 | .list=>2| .apply=>2| .callcc=>2| .wind=>2
 | .write=>3| .readLine=>3| .tick=>3| .roll=>3| .unseal=>3
 |_=>0
inductive PRep (G:Gh):Pm->Value->Prop where
 |bare (p:Pm) (q:Nat) (hf:p.form=0) (h:G.I q=some (.cells #[.func (.func p.workF) #[] #[]] p.workT (0,0))):PRep G p (.func (.func p.wrapF) #[] #[bp q])
 |mach (p:Pm) (q r:Nat) (hf:p.form=1) (h:G.I q=some (.cells #[.func (.func p.workF) #[] #[bp r]] p.workT (0,0))) (hr:G.mbox r):PRep G p (.func (.func p.wrapF) #[] #[bp q])
 |self (p:Pm) (q:Nat) (hf:p.form=2) (h:G.mbox q):PRep G p (.func (.func p.wrapF) #[] #[bp q])
theorem PRep.mono{G H:Gh}(h:G.le H):∀{p x},PRep G p x->PRep H p x
 |_,_,.bare p q a b=>.bare p q a (h.I b)
 |_,_,.mach p q r a b c=>.mach p q r a (h.I b) (h.mbox c)
 |_,_,.self p q a b=>.self p q a (h.mbox b)
mutual
inductive VRep (G:Gh):Vl->Value->Prop where
 |num (n:Int) (h0:-9223372036854775808<=n) (h1:n<=9223372036854775807):VRep G (.num n) (.iface 180 (.int .i64 n))
 |bool (b:Bool):VRep G (.bool b) (.iface 181 (.bool b))
 |str (t:ByteArray) (hz:t.size<=1000000000):VRep G (.str t.data.toList) (.iface 182 (.string t))
 |sym (t:ByteArray) (hz:t.size<=1000000000):VRep G (.sym t.data.toList) (.iface 183 (.string t))
 |nil:VRep G .nil (.iface 186 (.agg #[]))
 |none:VRep G .none (.iface 379 (.agg #[]))
 |pair (id b:Nat) (v u:Vl) (x y:Value) (hj:G.J[id]? =some b) (hb:G.I b=some (.cells #[x,y] 252 (0,0))) (h1:VRep G v x) (h2:VRep G u y):VRep G (.pair id v u) (.iface 246 (bp b))
 |proc (v:Vl) (b:Nat) (h:QRep G v b):VRep G v (.iface 281 (bp b))
 |seal (id b q:Nat) (v:Vl) (x:Value) (hj:G.J[id]? =some b) (hb:G.I b=some (.cells #[.func (.func 226) #[] #[bp q]] 316 (0,0))) (hq:G.I q=some (.cells #[x] 116 (0,0))) (h:VRep G v x):VRep G (.seal id v) (.iface 285 (bp b))
 |sealD (id b q1 q2:Nat) (d:Dt) (e:Dl) (hj:G.J[id]? =some b) (hb:G.I b=some (.cells #[.func (.func 228) #[] #[bp q1,bp q2]] 316 (0,0))) (h1:G.mbox q1) (h2:G.I q2=some (.cells e.cells 134 (0,0))) (h:DRep G d e):VRep G (.sealD id d) (.iface 285 (bp b))
 |grant (n:Nat) (h:G.I (G.K n)=some (.cells #[.int .i64 (n:Int)] 324 (0,0))):VRep G (.grant n) (.iface 322 (bp (G.K n)))
inductive QRep (G:Gh):Vl->Nat->Prop where
 |lam (sh:List Nat) (id n:Nat) (r:Bool) (l:List Ex) (env:Option Nat) (b q1 q2 q3:Nat) (xl xb:Value) (pf:Option Addr) (hj:G.J[id]? =some b) (hb:G.I b=some (.cells #[.func (.func 383) #[] #[bp q1,bp q2,bp q3]] 300 (0,0)))
   (h1:G.I q1=some (.cells #[xl] 241 (0,0))) (h2:G.I q2=some (.cells #[xb] 440 (0,0))) (h3:G.I q3=some (.cells #[.pointer pf] 378 (0,0))) (hl:SRep G (n::sh) l xl) (hx:BRep G n r xb) (he:NRep G env pf) (hs:Sh G sh pf):QRep G (.lam id n r l env) b
 |prim (p:Pm) (x:Value) (hb:G.I (G.P p)=some (.cells #[x] 300 (0,0))) (hp:PRep G p x):QRep G (.prim p) (G.P p)
 |cont (id:Nat) (k:List Fr) (ws:List Wn) (b q1 q2 q3:Nat) (u:Value) (wp:Option Addr) (hj:G.J[id]? =some b) (hb:G.I b=some (.cells #[.func (.func 312) #[] #[bp q1,bp q2,bp q3]] 300 (0,0)))
   (h1:G.mbox q1) (h2:G.I q2=some (.cells #[.pointer wp] 117 (0,0))) (h3:G.I q3=some (.cells #[u] 295 (0,0))) (hk:FRep G k u) (hw:WRep G ws wp):QRep G (.cont id k ws) b
inductive FRep (G:Gh):List Fr->Value->Prop where
 |nil (q:Nat) (h:G.mbox q):FRep G [] (.func (.func 230) #[] #[bp q])
 |ite (sh:List Nat) (t:Ex) (e:Option Ex) (env:Option Nat) (k:List Fr) (q1 q2 q3 q4:Nat) (xe xt u:Value) (pf:Option Addr) (h1:G.I q1=some (.cells #[xe] 241 (0,0))) (h2:G.I q2=some (.cells #[.pointer pf] 378 (0,0))) (h3:G.I q3=some (.cells #[u] 295 (0,0))) (h4:G.I q4=some (.cells #[xt] 241 (0,0)))
   (ht:CRep G sh t xt) (he:ORep G sh e xe) (hn:NRep G env pf) (hs:Sh G sh pf) (hk:FRep G k u):FRep G (.ite t e env::k) (.func (.func 399) #[] #[bp q1,bp q2,bp q3,bp q4])
 |set (sh:List Nat) (t:Tg) (env:Option Nat) (k:List Fr) (q1 q2 q3:Nat) (xs u:Value) (pf:Option Addr) (h1:G.I q1=some (.cells #[xs] 413 (0,0))) (h2:G.I q2=some (.cells #[.pointer pf] 378 (0,0))) (h3:G.I q3=some (.cells #[u] 295 (0,0)))
   (ht:TRep G sh t xs) (hn:NRep G env pf) (hs:Sh G sh pf) (hk:FRep G k u):FRep G (.set t env::k) (.func (.func 356) #[] #[bp q1,bp q2,bp q3])
 |body (sh:List Nat) (l:List Ex) (env:Option Nat) (k:List Fr) (q1 q2 q3:Nat) (xl u:Value) (pf:Option Addr) (h1:G.I q1=some (.cells #[xl] 241 (0,0))) (h2:G.I q2=some (.cells #[.pointer pf] 378 (0,0))) (h3:G.I q3=some (.cells #[u] 295 (0,0)))
   (hl:SRep G sh l xl) (hn:NRep G env pf) (hs:Sh G sh pf) (hk:FRep G k u):FRep G (.body l env::k) (.func (.func 385) #[] #[bp q1,bp q2,bp q3])
 |app (sh:List Nat) (vs:List Vl) (l:List Ex) (env:Option Nat) (k:List Fr) (q1 q2 q3 q4 q5 q6 q7:Nat) (sl x0 u:Value) (xs:List Value) (pf pd:Option Addr) (h1:G.mbox q1) (h2:G.I q2=some (.cells #[sl] 426 (0,0))) (h3:G.I q3=some (.cells #[.pointer pf] 378 (0,0)))
   (h4:G.I q4=some (.cells #[.pointer pd] 470 (0,0))) (h5:G.I q5=some (.cells #[.func (.func 372) #[] #[bp q6,bp q7]] 450 (0,0))) (h6:G.mbox q6) (h7:G.I q7=some (.cells #[u] 295 (0,0)))
   (hb:vs.length+xs.length<=90000) (hr:RowI G 241 sl (x0::xs)) (hx:XRep G sh l xs) (hc:HRep G vs.reverse pd) (hn:NRep G env pf) (hs:Sh G sh pf) (hk:FRep G k u):FRep G (.app vs l env::k) (.func (.func 396) #[] #[bp q1,bp q2,bp q3,bp q4,bp q5])
 |wind1 (a b c:Vl) (k:List Fr) (q1 q2 q3 q4 q5 ba bb bc:Nat) (u:Value) (h1:G.mbox q1) (h2:G.I q2=some (.cells #[bp ba] 281 (0,0))) (h3:G.I q3=some (.cells #[bp bc] 281 (0,0))) (h4:G.I q4=some (.cells #[bp bb] 281 (0,0))) (h5:G.I q5=some (.cells #[u] 295 (0,0)))
   (ha:QRep G a ba) (hb:QRep G b bb) (hc:QRep G c bc) (hk:FRep G k u):FRep G (.wind1 a b c::k) (.func (.func 315) #[] #[bp q1,bp q2,bp q3,bp q4,bp q5])
 |wind2 (c:Vl) (ws:List Wn) (k:List Fr) (q1 q2 q3 q4 bc:Nat) (u:Value) (wp:Option Addr) (h1:G.I q1=some (.cells #[.pointer wp] 117 (0,0))) (h2:G.mbox q2) (h3:G.I q3=some (.cells #[bp bc] 281 (0,0))) (h4:G.I q4=some (.cells #[u] 295 (0,0)))
   (hw:WRep G ws wp) (hc:QRep G c bc) (hk:FRep G k u):FRep G (.wind2 c ws::k) (.func (.func 316) #[] #[bp q1,bp q2,bp q3,bp q4])
 |wind3 (v:Vl) (k:List Fr) (q1 q2:Nat) (x u:Value) (h1:G.I q1=some (.cells #[u] 295 (0,0))) (h2:G.I q2=some (.cells #[x] 116 (0,0))) (hv:VRep G v x) (hk:FRep G k u):FRep G (.wind3 v::k) (.func (.func 317) #[] #[bp q1,bp q2])
 |back (ws:List Wn) (v:Vl) (k r:List Fr) (q1 q2 q3 q4 q5:Nat) (sl x u:Value) (wp:Option Addr) (h1:G.mbox q1) (h2:G.I q2=some (.cells #[.pointer wp] 117 (0,0))) (h3:G.I q3=some (.cells #[.func (.func 314) #[] #[bp q4,bp q5]] 297 (0,0)))
   (h4:G.I q4=some (.cells #[u] 295 (0,0))) (h5:G.I q5=some (.cells #[sl] 184 (0,0))) (hr:RowI G 116 sl [x]) (hv:VRep G v x) (hw:WRep G ws wp) (hk:FRep G k u):FRep G (.back ws v k::r) (.func (.func 351) #[] #[bp q1,bp q2,bp q3])
 |into (now ws:List Wn) (v:Vl) (k r:List Fr) (q1 q2 q3:Nat) (y:Value) (np:Option Addr) (h1:G.I q1=some (.cells #[.pointer np] 117 (0,0))) (h2:G.mbox q2) (h3:G.I q3=some (.cells #[y] 294 (0,0)))
   (hn:WRep G now np) (hy:FRep G (.back ws v k::r) y):FRep G (.into now ws v k::r) (.func (.func 353) #[] #[bp q1,bp q2,bp q3])
inductive HRep (G:Gh):List Vl->Option Addr->Prop where
 |nil:HRep G [] none
 |cons (v:Vl) (r:List Vl) (b:Nat) (x:Value) (pd:Option Addr) (hb:G.I b=some (.cells #[x,.pointer pd,.int .i64 ((r.length:Int)+1)] 485 (0,0))) (hv:VRep G v x) (hr:HRep G r pd):HRep G (v::r) (some ⟨b,0,none⟩)
inductive WRep (G:Gh):List Wn->Option Addr->Prop where
 |nil:WRep G [] none
 |cons (id:Nat) (a c:Vl) (r:List Wn) (b ba bc:Nat) (pd:Option Addr) (hj:G.J[id]? =some b) (hb:G.I b=some (.cells #[bp ba,bp bc,.pointer pd] 393 (0,0))) (ha:QRep G a ba) (hc:QRep G c bc) (hr:WRep G r pd):WRep G (.mk id a c::r) (some ⟨b,0,none⟩)
end
mutual
theorem VRep.mono{G H:Gh}(h:G.le H):∀{v x},VRep G v x->VRep H v x
 |_,_,.num n a b=>.num n a b
 |_,_,.bool b=>.bool b
 |_,_,.str t z=>.str t z
 |_,_,.sym t z=>.sym t z
 |_,_,.nil=>.nil
 |_,_,.none=>.none
 |_,_,.pair id b v u x y hj hb h1 h2=>.pair id b v u x y (h.J hj) (h.I hb) (VRep.mono h h1) (VRep.mono h h2)
 |_,_,.proc v b a=>.proc v b (QRep.mono h a)
 |_,_,.seal id b q v x hj hb hq a=>.seal id b q v x (h.J hj) (h.I hb) (h.I hq) (VRep.mono h a)
 |_,_,.sealD id b q1 q2 d e hj hb h1 h2 a=>.sealD id b q1 q2 d e (h.J hj) (h.I hb) (h.mbox h1) (h.I h2) (a.mono h)
 |_,_,.grant n a=>by have:=VRep.grant (G:=H) n (by rw[h.K];exact h.I a);rw[h.K]at this;exact this
theorem QRep.mono{G H:Gh}(h:G.le H):∀{v x},QRep G v x->QRep H v x
 |_,_,.lam sh id n r l env b q1 q2 q3 xl xb pf hj hb h1 h2 h3 hl hx he hs=>.lam sh id n r l env b q1 q2 q3 xl xb pf (h.J hj) (h.I hb) (h.I h1) (h.I h2) (h.I h3) (hl.mono h) (hx.mono h) (he.mono h) (hs.mono h)
 |_,_,.prim p x hb hp=>by have:=QRep.prim (G:=H) p x (by rw[h.P];exact h.I hb) (hp.mono h);rw[h.P]at this;exact this
 |_,_,.cont id k ws b q1 q2 q3 u wp hj hb h1 h2 h3 hk hw=>.cont id k ws b q1 q2 q3 u wp (h.J hj) (h.I hb) (h.mbox h1) (h.I h2) (h.I h3) (FRep.mono h hk) (WRep.mono h hw)
theorem FRep.mono{G H:Gh}(h:G.le H):∀{v x},FRep G v x->FRep H v x
 |_,_,.nil q a=>.nil q (h.mbox a)
 |_,_,.ite sh t e env k q1 q2 q3 q4 xe xt u pf h1 h2 h3 h4 ht he hn hs hk=>.ite sh t e env k q1 q2 q3 q4 xe xt u pf (h.I h1) (h.I h2) (h.I h3) (h.I h4) (ht.mono h) (he.mono h) (hn.mono h) (hs.mono h) (FRep.mono h hk)
 |_,_,.set sh t env k q1 q2 q3 xs u pf h1 h2 h3 ht hn hs hk=>.set sh t env k q1 q2 q3 xs u pf (h.I h1) (h.I h2) (h.I h3) (ht.mono h) (hn.mono h) (hs.mono h) (FRep.mono h hk)
 |_,_,.body sh l env k q1 q2 q3 xl u pf h1 h2 h3 hl hn hs hk=>.body sh l env k q1 q2 q3 xl u pf (h.I h1) (h.I h2) (h.I h3) (hl.mono h) (hn.mono h) (hs.mono h) (FRep.mono h hk)
 |_,_,.app sh vs l env k q1 q2 q3 q4 q5 q6 q7 sl x0 u xs pf pd h1 h2 h3 h4 h5 h6 h7 hb hr hx hc hn hs hk=>.app sh vs l env k q1 q2 q3 q4 q5 q6 q7 sl x0 u xs pf pd (h.mbox h1) (h.I h2) (h.I h3) (h.I h4) (h.I h5) (h.mbox h6) (h.I h7) hb (hr.mono h) (hx.mono h) (HRep.mono h hc) (hn.mono h) (hs.mono h) (FRep.mono h hk)
 |_,_,.wind1 a b c k q1 q2 q3 q4 q5 ba bb bc u h1 h2 h3 h4 h5 ha hb hc hk=>.wind1 a b c k q1 q2 q3 q4 q5 ba bb bc u (h.mbox h1) (h.I h2) (h.I h3) (h.I h4) (h.I h5) (QRep.mono h ha) (QRep.mono h hb) (QRep.mono h hc) (FRep.mono h hk)
 |_,_,.wind2 c ws k q1 q2 q3 q4 bc u wp h1 h2 h3 h4 hw hc hk=>.wind2 c ws k q1 q2 q3 q4 bc u wp (h.I h1) (h.mbox h2) (h.I h3) (h.I h4) (WRep.mono h hw) (QRep.mono h hc) (FRep.mono h hk)
 |_,_,.wind3 v k q1 q2 x u h1 h2 hv hk=>.wind3 v k q1 q2 x u (h.I h1) (h.I h2) (VRep.mono h hv) (FRep.mono h hk)
 |_,_,.back ws v k r q1 q2 q3 q4 q5 sl x u wp h1 h2 h3 h4 h5 hr hv hw hk=>.back ws v k r q1 q2 q3 q4 q5 sl x u wp (h.mbox h1) (h.I h2) (h.I h3) (h.I h4) (h.I h5) (hr.mono h) (VRep.mono h hv) (WRep.mono h hw) (FRep.mono h hk)
 |_,_,.into now ws v k r q1 q2 q3 y np h1 h2 h3 hn hy=>.into now ws v k r q1 q2 q3 y np (h.I h1) (h.mbox h2) (h.I h3) (WRep.mono h hn) (FRep.mono h hy)
theorem HRep.mono{G H:Gh}(h:G.le H):∀{v x},HRep G v x->HRep H v x
 |_,_,.nil=>.nil
 |_,_,.cons v r b x pd hb hv hr=>.cons v r b x pd (h.I hb) (VRep.mono h hv) (HRep.mono h hr)
theorem WRep.mono{G H:Gh}(h:G.le H):∀{v x},WRep G v x->WRep H v x
 |_,_,.nil=>.nil
 |_,_,.cons id a c r b ba bc pd hj hb ha hc hr=>.cons id a c r b ba bc pd (h.J hj) (h.I hb) (QRep.mono h ha) (QRep.mono h hc) (WRep.mono h hr)
end
end
section
open Sc
def Eg(k:Nat):Prop:=∀args w,(callFunc k args).run prog w=.ok (.enter k args) w
theorem qak{k:Nat}{fn:Func}(hf:prog.funcs[k]? =some fn)(hn:(fn.name== "runtime.NumGoroutine")=false)(hb:fn.body.isNone=false):Eg k:=by
 intro args w;have h1:¬fn.name= "runtime.NumGoroutine" :=by simpa using hn
 have h2:¬fn.body=none:=by intro e;simp[e]at hb
 simp[callFunc,hf,h1,h2]
def rowOf:Value->List Nat
 | .slice (some a) (_+1) _=>[a.block]
 |_=>[]
def Gh.rows(G:Gh):List Nat:=G.E.flatMap fun p=>rowOf p.2
def Gh.mut(G:Gh):List Nat:=G.mb::G.sb::G.cb::G.mp::(G.B.map (·.2)++G.rows)
def Gh.add(G:Gh)(b:Nat)(o:Obj):Gh:={G with I:=fun c=>if c=b then some o else G.I c}
def ERow(G:Gh)(h:Array Obj)(sv:Value)(vs:List Vl):Prop:=
 (vs=[]/\∃a cap,sv=.slice a 0 cap)\/
 ∃g o cap arr,sv=.slice (some ⟨g,o,none⟩) vs.length cap/\vs≠[]/\h[g]? =some (.cells arr 116 (0,0))/\∀i v,vs[i]? =some v->∃x,arr[o+i]? =some x/\VRep G v x
def GVal(G:Gh)(o:Option Vl)(x:Value):Prop:=match o with
 |none=>x=.nilIface
 |some v=>VRep G v x
structure Inv (G:Gh) (S:Sub) (m:Mc) (w:World):Prop where
 imm:∀{b:Nat} {o:Obj},G.I b=some o->w.heap[b]? =some o
 nd:G.mut.Nodup
 mi:∀{b:Nat},b∈G.mut->G.I b=none
 ml:∀{b:Nat},b∈G.mut->b<w.heap.size
 st:Mt G.sb m.steps S.fuel 10 w
 ce:Mt G.cb m.cells S.quota 11 w
 sl:(m.steps:Int)<=S.fuel/\S.fuel<=20000
 cl:(m.cells:Int)<=S.quota/\S.quota<=5000
 ma:∃gv wp,w.heap[G.mb]? =some (.cells #[bp G.sb,bp G.cb,.map (some G.mp),gv,.pointer wp] 119 (0,0))/\WRep G m.wnd wp
 mp:∃es clock,w.heap[G.mp]? =some (.map es clock)/\es.toList.map (fun e=>(e.key,e.val))=G.B.map (fun p=>(Value.string ⟨p.1.toArray⟩,bp p.2))
 gl:∀{s:Bs} {b:Nat},(s,b)∈G.B->∃x,w.heap[b]? =some (.cells #[x] 318 (0,0))/\GVal G (lookup s m.glob) x
 gd:∀{s:Bs} {v:Vl},lookup s m.glob=some v->∃b,(s,b)∈G.B
 gk:(G.B.map (·.1)).Nodup
 en:∀{i:Nat} {vs:List Vl} {e:Option Nat},m.envs[i]? =some (vs,e)->∃fb sv pf,G.E[i]? =some (fb,sv)/\G.I fb=some (.cells #[sv,.pointer pf] 461 (0,0))/\NRep G e pf/\ERow G w.heap sv vs
 el:G.E.length=m.envs.length
 jl:G.J.length=m.ids
 jn:G.J.Nodup
 ji:∀{b:Nat},b∈G.J->∃o,G.I b=some o
 fo:w.os=G.W.os/\w.tape=G.W.tape/\w.output=G.W.output
 ff:∀{b:Nat},G.F b->w.heap[b]? =G.W.heap[b]?/\b<w.heap.size
 fm:∀{b:Nat},b∈G.mut->¬G.F b
 fi:∀{b:Nat},G.F b->G.I b=none
theorem Inv.lk{G:Gh}{S:Sub}{m:Mc}{w w':World}(h:Lk w w')(i:Inv G S m w):Inv G S m w':=by
 have e:=h.heap;obtain⟨a1,a2,a3,a4,a5,a6,a7,a8,a9,a10,a11,a12,a13,a14,a15,a16,a17,a18,a19,a20,a21,a22⟩:=i;unfold Mt at a5 a6;rw[<-e]at a1 a4 a5 a6 a9 a10 a11 a14 a20;rw[<-h.os,<-h.tape,<-h.output]at a19;exact⟨a1,a2,a3,a4,a5,a6,a7,a8,a9,a10,a11,a12,a13,a14,a15,a16,a17,a18,a19,a20,a21,a22⟩
theorem Gh.le_add{G:Gh}{b:Nat}{o:Obj}(h:G.I b=none):G.le (G.add b o):=
 ⟨fun {c x} hc=>by
  show(if c=b then some o else G.I c)=some x;by_cases e:c=b
  ·subst e;rw[h]at hc;cases hc
  ·rw[if_neg e];exact hc,id,id,id,rfl,rfl,rfl,rfl,rfl,rfl⟩
theorem Gh.add_at(G:Gh)(b:Nat)(o:Obj):(G.add b o).I b=some o:=if_pos rfl
theorem ERow.mono{G H:Gh}(h:G.le H){a b:Array Obj}{sv:Value}{vs:List Vl}(hk:∀g o n cap,sv=.slice (some ⟨g,o,none⟩) (n+1) cap->b[g]? =a[g]?):ERow G a sv vs->ERow H b sv vs
 | .inl x=>.inl x
 | .inr ⟨g,o,cap,arr,h1,h2,h3,h4⟩=>.inr ⟨g,o,cap,arr,h1,h2,by
   obtain⟨v,r,rfl⟩:=List.exists_cons_of_ne_nil h2;rw[hk g o r.length cap (by rw[h1];rfl)];exact h3,fun i v hv=>by obtain⟨x,e1,e2⟩:=h4 i v hv;exact⟨x,e1,e2.mono h⟩⟩
theorem GVal.mono{G H:Gh}(h:G.le H){o:Option Vl}{x:Value}(hx:GVal G o x):GVal H o x:=by
 cases o with
 |none=>exact hx
 |some v=>exact VRep.mono h hx
theorem qc7{G:Gh}{i fb g o n cap:Nat}(h:G.E[i]? =some (fb,.slice (some ⟨g,o,none⟩) (n+1) cap)):g∈G.rows:=
 List.mem_flatMap.2 ⟨_,List.mem_of_getElem? h,List.mem_singleton.2 rfl⟩
theorem Inv.grow{G H:Gh}{S:Sub}{m:Mc}{w w':World}(i:Inv G S m w)(hB:Below w.heap.size w w')(h:G.le H)(hJ:H.J=G.J)(hE:H.E=G.E)(hG:H.B=G.B)(hW:H.W=G.W)(hF:H.F=G.F)
  (hI:∀{b o},H.I b=some o->G.I b=some o\/(w.heap.size<=b/\w'.heap[b]? =some o)):Inv H S m w':=by
 have hm:H.mut=G.mut:=by simp only[Gh.mut,Gh.rows,h.mb,h.sb,h.cb,h.mp,hE,hG]
 have keep:∀{b:Nat},b∈G.mut->w'.heap[b]? =w.heap[b]?:=fun hb=>hB.block _ (i.ml hb)
 have m1:G.mb∈G.mut:=by simp[Gh.mut]
 have m2:G.sb∈G.mut:=by simp[Gh.mut]
 have m3:G.cb∈G.mut:=by simp[Gh.mut]
 have m4:G.mp∈G.mut:=by simp[Gh.mut]
 refine⟨?_,by rw[hm];exact i.nd,?_,?_,?_,?_,i.sl,i.cl,?_,?_,?_,?_,by rw[hG];exact i.gk,?_,by rw[hE];exact i.el,by rw[hJ];exact i.jl,by rw[hJ];exact i.jn,?_,?_,?_,?_,?_⟩
 ·intro b o hb;rcases hI hb with hb|⟨_,hb⟩
  ·have:=i.imm hb;rw[hB.block b (Array.getElem?_eq_some_iff.1 this).1];exact this
  ·exact hb
 ·intro b hb;rw[hm]at hb;rcases hc:H.I b with _|o
  ·rfl
  ·rcases hI hc with h1|⟨h1,_⟩
   ·rw[i.mi hb]at h1;cases h1
   ·have:=i.ml hb;omega
 ·intro b hb;rw[hm]at hb;exact Nat.lt_of_lt_of_le (i.ml hb) hB.size
 ·unfold Mt;rw[h.sb,keep m2];exact i.st
 ·unfold Mt;rw[h.cb,keep m3];exact i.ce
 ·obtain⟨gv,wp,a,b⟩:=i.ma;exact⟨gv,wp,by rw[h.mb,h.sb,h.cb,h.mp,keep m1];exact a,b.mono h⟩
 ·obtain⟨es,c,a,b⟩:=i.mp;exact⟨es,c,by rw[h.mp,keep m4];exact a,by rw[hG];exact b⟩
 ·intro s b hs;rw[hG]at hs;obtain⟨x,a,k⟩:=i.gl hs;refine⟨x,?_,k.mono h⟩;rw[keep (by simp only[Gh.mut,List.mem_cons,List.mem_append,List.mem_map];exact .inr (.inr (.inr (.inr (.inl ⟨_,hs,rfl⟩)))))];exact a
 ·intro s v hs;rw[hG];exact i.gd hs
 ·intro j vs e hj;obtain⟨fb,sv,pf,a,b,c,d⟩:=i.en hj;refine⟨fb,sv,pf,by rw[hE];exact a,h.I b,c.mono h,d.mono h fun g o n cap hsv=>?_⟩;subst hsv;exact keep (by simp only[Gh.mut,List.mem_cons,List.mem_append];exact .inr (.inr (.inr (.inr (.inr (qc7 a))))))
 ·intro b hb;rw[hJ]at hb;obtain⟨o,ho⟩:=i.ji hb;exact⟨o,h.I ho⟩
 ·rw[hW,hB.os,hB.tape,hB.output];exact i.fo
 ·intro b hb;rw[hF]at hb;obtain⟨h1,h2⟩:=i.ff hb;rw[hW,hB.block b h2];exact⟨h1,Nat.lt_of_lt_of_le h2 hB.size⟩
 ·intro b hb;rw[hm]at hb;rw[hF];exact i.fm hb
 ·intro b hb;rw[hF]at hb;rcases hc:H.I b with _|o
  ·rfl
  ·rcases hI hc with h1|⟨h1,_⟩
   ·rw[i.fi hb]at h1;cases h1
   ·have:=(i.ff hb).2;omega
theorem Inv.fresh{G:Gh}{S:Sub}{m:Mc}{w:World}(i:Inv G S m w){b:Nat}(hb:w.heap.size<=b):G.I b=none:=by
 rcases h:G.I b with _|o
 ·rfl
 ·have:=(Array.getElem?_eq_some_iff.1 (i.imm h)).1;omega
theorem Inv.alloc{G:Gh}{S:Sub}{m:Mc}{w:World}(i:Inv G S m w)(o:Obj):Inv (G.add w.heap.size o) S m (w.alloc o):=
 i.grow ((Below.refl _ _).alloc (Nat.le_refl _) _) (Gh.le_add (i.fresh (Nat.le_refl _))) rfl rfl rfl rfl rfl fun {b x} hb=>by
  by_cases e:b=w.heap.size
  ·subst e;rw[Gh.add_at]at hb;cases hb;exact .inr ⟨Nat.le_refl _,heap_alloc_new _ _⟩
  ·left;have:(if b=w.heap.size then some o else G.I b)=some x:=hb;rw[if_neg e]at this;exact this
theorem Inv.below{G:Gh}{S:Sub}{m:Mc}{w w':World}(i:Inv G S m w)(hB:Below w.heap.size w w'):Inv G S m w':=i.grow hB (Gh.le.refl _) rfl rfl rfl rfl rfl .inl
theorem Inv.cell{G:Gh}{S:Sub}{m:Mc}{w:World}(i:Inv G S m w){b:Nat}{c:Array Value}{t:Nat}(h:G.I b=some (.cells c t (0,0)))(o:Nat):w.cell? ⟨b,o,Option.none⟩=c[o]?:=by
 simp[World.cell?,i.imm h]
end
section
open Sc
section
variable {G:Gh} {S:Sub} {m:Mc} {w:World}
theorem Inv.m1(_:Inv G S m w):G.mb∈G.mut:=by simp[Gh.mut]
theorem Inv.m2(_:Inv G S m w):G.sb∈G.mut:=by simp[Gh.mut]
theorem Inv.m3(_:Inv G S m w):G.cb∈G.mut:=by simp[Gh.mut]
theorem Inv.m4(_:Inv G S m w):G.mp∈G.mut:=by simp[Gh.mut]
theorem Inv.m5(_:Inv G S m w){s:Bs}{b:Nat}(h:(s,b)∈G.B):b∈G.mut:=by
 simp only[Gh.mut,List.mem_cons,List.mem_append,List.mem_map];exact .inr (.inr (.inr (.inr (.inl ⟨_,h,rfl⟩))))
theorem Inv.m6(_:Inv G S m w){i fb g o n cap:Nat}(h:G.E[i]? =some (fb,.slice (some ⟨g,o,Option.none⟩) (n+1) cap)):g∈G.mut:=by
 simp only[Gh.mut,List.mem_cons,List.mem_append];exact .inr (.inr (.inr (.inr (.inr (qc7 h)))))
theorem Inv.sb_mb(i:Inv G S m w):G.sb≠G.mb:=by have:=i.nd;simp only[Gh.mut,List.nodup_cons,List.mem_cons,not_or]at this;exact fun e=>this.1.1 e.symm
theorem Inv.cb_mb(i:Inv G S m w):G.cb≠G.mb:=by have:=i.nd;simp only[Gh.mut,List.nodup_cons,List.mem_cons,not_or]at this;exact fun e=>this.1.2.1 e.symm
theorem Inv.mp_mb(i:Inv G S m w):G.mp≠G.mb:=by have:=i.nd;simp only[Gh.mut,List.nodup_cons,List.mem_cons,not_or]at this;exact fun e=>this.1.2.2.1 e.symm
theorem Inv.cb_sb(i:Inv G S m w):G.cb≠G.sb:=by have:=i.nd;simp only[Gh.mut,List.nodup_cons,List.mem_cons,not_or]at this;exact fun e=>this.2.1.1 e.symm
theorem Inv.mp_sb(i:Inv G S m w):G.mp≠G.sb:=by have:=i.nd;simp only[Gh.mut,List.nodup_cons,List.mem_cons,not_or]at this;exact fun e=>this.2.1.2.1 e.symm
theorem Inv.mp_cb(i:Inv G S m w):G.mp≠G.cb:=by have:=i.nd;simp only[Gh.mut,List.nodup_cons,List.mem_cons,not_or]at this;exact fun e=>this.2.2.1.1 e.symm
theorem Inv.late(i:Inv G S m w){b:Nat}(h:b∈G.B.map (·.2)++G.rows):b≠G.mb/\b≠G.sb/\b≠G.cb/\b≠G.mp:=by
 have:=i.nd;simp only[Gh.mut,List.nodup_cons,List.mem_cons,not_or]at this;exact⟨fun e=>this.1.2.2.2 (e▸h),fun e=>this.2.1.2.2 (e▸h),fun e=>this.2.2.1.2 (e▸h),fun e=>this.2.2.2.1 (e▸h)⟩
theorem Inv.lateB(i:Inv G S m w){s:Bs}{b:Nat}(h:(s,b)∈G.B):b≠G.mb/\b≠G.sb/\b≠G.cb/\b≠G.mp:=i.late (List.mem_append_left _ (List.mem_map.2 ⟨_,h,rfl⟩))
theorem Inv.lateE(i:Inv G S m w){j fb g o n cap:Nat}(h:G.E[j]? =some (fb,.slice (some ⟨g,o,Option.none⟩) (n+1) cap)):g≠G.mb/\g≠G.sb/\g≠G.cb/\g≠G.mp:=i.late (List.mem_append_right _ (qc7 h))
theorem Inv.nd2(i:Inv G S m w):(G.B.map (·.2)++G.rows).Nodup:=by
 have:=i.nd;simp only[Gh.mut,List.nodup_cons]at this;exact this.2.2.2.2
theorem Inv.turn{m':Mc}{w':World}{b:Nat}(i:Inv G S m w)(hb:b∈G.mut)(hk:∀c,c≠b->w'.heap[c]? =w.heap[c]?)(hs:w'.heap.size=w.heap.size)(ho:w'.os=w.os/\w'.tape=w.tape/\w'.output=w.output)
  (st:Mt G.sb m'.steps S.fuel 10 w')(ce:Mt G.cb m'.cells S.quota 11 w')(sl:(m'.steps:Int)<=S.fuel)(cl:(m'.cells:Int)<=S.quota)
  (ma:∃gv wp,w'.heap[G.mb]? =some (.cells #[bp G.sb,bp G.cb,.map (some G.mp),gv,.pointer wp] 119 (0,0))/\WRep G m'.wnd wp)
  (mp:∃es clock,w'.heap[G.mp]? =some (.map es clock)/\es.toList.map (fun e=>(e.key,e.val))=G.B.map (fun p=>(Value.string ⟨p.1.toArray⟩,bp p.2)))
  (gl:∀{s:Bs} {b:Nat},(s,b)∈G.B->∃x,w'.heap[b]? =some (.cells #[x] 318 (0,0))/\GVal G (lookup s m'.glob) x)
  (gd:∀{s:Bs} {v:Vl},lookup s m'.glob=some v->∃b,(s,b)∈G.B)
  (en:∀{i:Nat} {vs:List Vl} {e:Option Nat},m'.envs[i]? =some (vs,e)->∃fb sv pf,G.E[i]? =some (fb,sv)/\G.I fb=some (.cells #[sv,.pointer pf] 461 (0,0))/\NRep G e pf/\ERow G w'.heap sv vs)
  (el:G.E.length=m'.envs.length)(jl:G.J.length=m'.ids):Inv G S m' w':=
 ⟨fun {c o} hc=>by
  rw[hk c (by intro e;subst e;rw[i.mi hb]at hc;cases hc)];exact i.imm hc,
  i.nd,i.mi,fun h=>by rw[hs];exact i.ml h,st,ce,⟨sl,i.sl.2⟩,⟨cl,i.cl.2⟩,ma,mp,gl,gd,i.gk,en,el,jl,i.jn,i.ji,by rw[ho.1,ho.2.1,ho.2.2];exact i.fo,
  fun {c} hc=>by rw[hk c (fun e=>i.fm hb (e▸hc)),hs];exact i.ff hc,i.fm,i.fi⟩
theorem qaa{w:World}{a:Addr}{v:Value}(c:Nat)(h:c≠a.block):(w.setCell a v).heap[c]? =w.heap[c]?:=Below.heap_setCell _ _ _ _ h
theorem qaf{w:World}{a:Addr}{v:Value}:(w.setCell a v).heap.size=w.heap.size:=by simp[World.setCell]
theorem Mt.set{b:Nat}{t mo out:Int}{w:World}(h:Mt b t mo out w)(t':Int):Mt b t' mo out (w.setCell ⟨b,0,Option.none⟩ (.int .i64 t')):=by
 unfold Mt at*;simp[World.setCell,Array.getElem?_modify,h]
theorem Mt.keep{b:Nat}{t mo out:Int}{w w':World}(h:Mt b t mo out w)(e:w'.heap[b]? =w.heap[b]?):Mt b t mo out w':=by unfold Mt at*;rw[e];exact h
theorem Inv.glKeep{w':World}{b:Nat}(i:Inv G S m w)(hk:∀c,c≠b->w'.heap[c]? =w.heap[c]?)(hn:∀s c,(s,c)∈G.B->c≠b):∀{s:Bs} {c:Nat},(s,c)∈G.B->∃x,w'.heap[c]? =some (.cells #[x] 318 (0,0))/\GVal G (lookup s m.glob) x:=fun {s c} h=>by
 rw[hk c (hn s c h)];exact i.gl h
theorem Inv.enKeep{w':World}{b:Nat}(i:Inv G S m w)(hk:∀c,c≠b->w'.heap[c]? =w.heap[c]?)(hn:∀j fb g o n cap:Nat,G.E[j]? =some (fb,Value.slice (some ⟨g,o,Option.none⟩) (n+1) cap)->g≠b):
  ∀{j:Nat} {vs:List Vl} {e:Option Nat},m.envs[j]? =some (vs,e)->∃fb sv pf,G.E[j]? =some (fb,sv)/\G.I fb=some (.cells #[sv,.pointer pf] 461 (0,0))/\NRep G e pf/\ERow G w'.heap sv vs:=fun {j vs e} h=>by
 obtain⟨fb,sv,pf,h1,h2,h3,h4⟩:=i.en h;exact⟨fb,sv,pf,h1,h2,h3,h4.mono (Gh.le.refl _) fun g o n cap e=>hk g (hn j fb g o n cap (by rw[h1,e]))⟩
theorem Inv.steps(i:Inv G S m w)(n:Nat)(h:(n:Int)<=S.fuel):Inv G S {m with steps:=n} (w.setCell ⟨G.sb,0,Option.none⟩ (.int .i64 (n:Int))):=
 i.turn i.m2 (fun c hc=>qaa c hc) qaf ⟨rfl,rfl,rfl⟩ (i.st.set _) (i.ce.keep (qaa _ i.cb_sb)) h i.cl.1
  (by rw[qaa (a:=⟨G.sb,0,Option.none⟩) _ (Ne.symm i.sb_mb)];exact i.ma) (by rw[qaa (a:=⟨G.sb,0,Option.none⟩) _ i.mp_sb];exact i.mp)
  (i.glKeep (fun c hc=>qaa c hc) fun s c h=>(i.lateB h).2.1) i.gd
  (i.enKeep (fun c hc=>qaa c hc) fun j fb g o n cap h=>(i.lateE h).2.1) i.el i.jl
theorem Inv.cells(i:Inv G S m w)(n:Nat)(h:(n:Int)<=S.quota):Inv G S {m with cells:=n} (w.setCell ⟨G.cb,0,Option.none⟩ (.int .i64 (n:Int))):=
 i.turn i.m3 (fun c hc=>qaa c hc) qaf ⟨rfl,rfl,rfl⟩ (i.st.keep (qaa _ (Ne.symm i.cb_sb))) (i.ce.set _) i.sl.1 h
  (by rw[qaa (a:=⟨G.cb,0,Option.none⟩) _ (Ne.symm i.cb_mb)];exact i.ma) (by rw[qaa (a:=⟨G.cb,0,Option.none⟩) _ i.mp_cb];exact i.mp)
  (i.glKeep (fun c hc=>qaa c hc) fun s c h=>(i.lateB h).2.2.1) i.gd
  (i.enKeep (fun c hc=>qaa c hc) fun j fb g o n cap h=>(i.lateE h).2.2.1) i.el i.jl
theorem Inv.given(i:Inv G S m w)(x:Value):Inv G S m (w.setCell ⟨G.mb,3,Option.none⟩ x):=
 i.turn i.m1 (fun c hc=>qaa c hc) qaf ⟨rfl,rfl,rfl⟩ (i.st.keep (qaa _ i.sb_mb)) (i.ce.keep (qaa _ i.cb_mb)) i.sl.1 i.cl.1
  (by obtain⟨gv,wp,a,b⟩:=i.ma;exact⟨x,wp,by simp[World.setCell,Array.getElem?_modify,a],b⟩) (by rw[qaa (a:=⟨G.mb,3,Option.none⟩) _ i.mp_mb];exact i.mp)
  (i.glKeep (fun c hc=>qaa c hc) fun s c h=>(i.lateB h).1) i.gd
  (i.enKeep (fun c hc=>qaa c hc) fun j fb g o n cap h=>(i.lateE h).1) i.el i.jl
theorem Inv.winders(i:Inv G S m w)(ws:List Wn)(wp:Option Addr)(h:WRep G ws wp):Inv G S {m with wnd:=ws} (w.setCell ⟨G.mb,4,Option.none⟩ (.pointer wp)):=
 i.turn i.m1 (fun c hc=>qaa c hc) qaf ⟨rfl,rfl,rfl⟩ (i.st.keep (qaa _ i.sb_mb)) (i.ce.keep (qaa _ i.cb_mb)) i.sl.1 i.cl.1
  (by obtain⟨gv,wp',a,b⟩:=i.ma;exact⟨gv,wp,by simp[World.setCell,Array.getElem?_modify,a],h⟩) (by rw[qaa (a:=⟨G.mb,4,Option.none⟩) _ i.mp_mb];exact i.mp)
  (i.glKeep (fun c hc=>qaa c hc) fun s c h=>(i.lateB h).1) i.gd
  (i.enKeep (fun c hc=>qaa c hc) fun j fb g o n cap h=>(i.lateE h).1) i.el i.jl
theorem qdm(s t:Bs)(v:Vl):∀l:List (Bs×Vl),lookup t (put s v l)=if s=t then some v else lookup t l
 | []=>by simp[put,lookup]
 |(u,x)::r=>by
  by_cases h:u=s
  ·subst h;simp only[put,if_true,lookup];by_cases k:u=t <;> simp[k]
  ·simp only[put,if_neg h,lookup,qdm s t v r];by_cases k:u=t
   ·subst k;simp[Ne.symm h]
   ·simp[k]
theorem Inv.setGlob(i:Inv G S m w){s:Bs}{b:Nat}(hs:(s,b)∈G.B){v:Vl}{x:Value}(hv:VRep G v x):Inv G S {m with glob:=put s v m.glob} (w.setCell ⟨b,0,Option.none⟩ x):=by
 have hl:=i.lateB hs;refine i.turn (i.m5 hs) (fun c hc=>qaa c hc) qaf ⟨rfl,rfl,rfl⟩ (i.st.keep (qaa _ (Ne.symm hl.2.1))) (i.ce.keep (qaa _ (Ne.symm hl.2.2.1))) i.sl.1 i.cl.1
  (by rw[qaa (a:=⟨b,0,Option.none⟩) _ (Ne.symm hl.1)];exact i.ma) (by rw[qaa (a:=⟨b,0,Option.none⟩) _ (Ne.symm hl.2.2.2)];exact i.mp) ?_ ?_
  (i.enKeep (fun c hc=>qaa c hc) fun j fb g o n cap h e=>?_) i.el i.jl
 ·intro t c ht;rw[qdm];by_cases e:s=t
  ·subst e;have hc:c=b:=by
    obtain⟨j,hj,e1⟩:=List.mem_iff_getElem.1 hs;obtain⟨k,hk,e2⟩:=List.mem_iff_getElem.1 ht;have:j=k:=(List.getElem_inj (h₀:=by simpa using hj) (h₁:=by simpa using hk) i.gk).1 (by simp[e1,e2]);subst this;rw[e1]at e2;cases e2;rfl
   subst hc;obtain⟨y,h1,_⟩:=i.gl ht;refine⟨x,by simp[World.setCell,Array.getElem?_modify,h1],?_⟩;rw[if_pos rfl];exact hv
  ·obtain⟨y,h1,h2⟩:=i.gl ht;refine⟨y,?_,by rw[if_neg e];exact h2⟩;rw[qaa (a:=⟨b,0,Option.none⟩) c ?_];exact h1;intro ec;have ec:c=b:=ec;subst ec;have hn:=(List.nodup_append.1 i.nd2).1;obtain⟨j,hj,e1⟩:=List.mem_iff_getElem.1 hs;obtain⟨k,hk,e2⟩:=List.mem_iff_getElem.1 ht;have:j=k:=(List.getElem_inj (h₀:=by simpa using hj) (h₁:=by simpa using hk) hn).1 (by simp[e1,e2]);subst this;rw[e1]at e2;cases e2;exact e rfl
 ·intro t u ht;rw[qdm]at ht;by_cases e:s=t
  ·subst e;exact⟨b,hs⟩
  ·rw[if_neg e]at ht;exact i.gd ht
 ·have e:g=b:=e;subst e;exact(List.nodup_append.1 i.nd2).2.2 _ (List.mem_map.2 ⟨_,hs,rfl⟩) _ (qc7 h) rfl
def Gh.id(G:Gh)(b:Nat):Gh:={G with J:=G.J++[b]}
theorem Gh.le_id(G:Gh)(b:Nat):G.le (G.id b):=⟨_root_.id,fun {i c} h=>by
 show(G.J++[b])[i]? =some c;rw[List.getElem?_append_left (List.getElem?_eq_some_iff.1 h).1];exact h,_root_.id,_root_.id,rfl,rfl,rfl,rfl,rfl,rfl⟩
theorem Gh.id_at(G:Gh)(b:Nat):(G.id b).J[G.J.length]? =some b:=by show(G.J++[b])[G.J.length]? =some b;simp
theorem Inv.newId(i:Inv G S m w){b:Nat}{o:Obj}(hb:b∉G.J)(ho:G.I b=some o):Inv (G.id b) S {m with ids:=m.ids+1} w:=by
 have h:=G.le_id b;refine⟨i.imm,i.nd,i.mi,i.ml,i.st,i.ce,i.sl,i.cl,?_,i.mp,?_,i.gd,i.gk,?_,i.el,?_,?_,?_,i.fo,i.ff,i.fm,i.fi⟩
 ·obtain⟨gv,wp,a,c⟩:=i.ma;exact⟨gv,wp,a,c.mono h⟩
 ·intro s c hs;obtain⟨x,a,k⟩:=i.gl hs;exact⟨x,a,k.mono h⟩
 ·intro j vs e hj;obtain⟨fb,sv,pf,a,c,d,k⟩:=i.en hj;exact⟨fb,sv,pf,a,c,d.mono h,k.mono h fun _ _ _ _ _=>rfl⟩
 ·show(G.J++[b]).length=m.ids+1;simp[i.jl]
 ·show(G.J++[b]).Nodup;rw[List.nodup_append];exact⟨i.jn,by simp,fun x hx y hy e=>by simp at hy;subst hy;subst e;exact hb hx⟩
 ·intro c hc;have hc:c∈G.J++[b]:=hc;rcases List.mem_append.1 hc with hc|hc
  ·exact i.ji hc
  ·simp at hc;subst hc;exact⟨o,ho⟩
theorem Inv.newObj(i:Inv G S m w)(o:Obj):Inv ((G.add w.heap.size o).id w.heap.size) S {m with ids:=m.ids+1} (w.alloc o):=
 (i.alloc o).newId (fun h=>by
  obtain⟨x,hx⟩:=i.ji h;rw[i.fresh (Nat.le_refl _)]at hx;cases hx) (Gh.add_at _ _ _)
theorem Inv.le_newObj(i:Inv G S m w)(o:Obj):G.le ((G.add w.heap.size o).id w.heap.size):=(Gh.le_add (i.fresh (Nat.le_refl _))).trans (Gh.le_id _ _)
theorem Inv.at_newObj(i:Inv G S m w)(o:Obj):((G.add w.heap.size o).id w.heap.size).J[m.ids]? =some w.heap.size:=by rw[<-i.jl];exact Gh.id_at _ _
def LRow(G:Gh)(h:Array Obj)(sv:Value)(vs:List Vl):Prop:=
 (vs=[]/\∃a cap,sv=.slice a 0 cap)\/
 ∃g o cap arr,sv=.slice (some ⟨g,o,Option.none⟩) vs.length cap/\vs≠[]/\vs.length<=cap/\vs.length<=1000000/\h[g]? =some (.cells arr 116 (0,0))/\g∉G.mut/\G.I g=Option.none/\¬G.F g/\∀i v,vs[i]? =some v->∃x,arr[o+i]? =some x/\VRep G v x
theorem Inv.fix(i:Inv G S m w){g:Nat}{o:Obj}(hmf:g∉G.mut/\¬G.F g)(hn:G.I g=Option.none)(hw:w.heap[g]? =some o):Inv (G.add g o) S m w:=by
 have hm:=hmf.1;have h:=Gh.le_add (o:=o) hn;refine⟨?_,i.nd,?_,i.ml,i.st,i.ce,i.sl,i.cl,?_,i.mp,?_,i.gd,i.gk,?_,i.el,i.jl,i.jn,?_,i.fo,i.ff,i.fm,fun {b} hb=>(if_neg (fun e:b=g=>hmf.2 (e▸hb))).trans (i.fi hb)⟩
 ·intro b x hb;have hb:(if b=g then some o else G.I b)=some x:=hb;by_cases e:b=g
  ·subst e;rw[if_pos rfl]at hb;cases hb;exact hw
  ·rw[if_neg e]at hb;exact i.imm hb
 ·intro b hb;show(if b=g then some o else G.I b)=Option.none;rw[if_neg (fun e:b=g=>hm (e▸hb))];exact i.mi hb
 ·obtain⟨gv,wp,a,c⟩:=i.ma;exact⟨gv,wp,a,c.mono h⟩
 ·intro s c hs;obtain⟨x,a,k⟩:=i.gl hs;exact⟨x,a,k.mono h⟩
 ·intro j vs e hj;obtain⟨fb,sv,pf,a,c,d,k⟩:=i.en hj;exact⟨fb,sv,pf,a,h.I c,d.mono h,k.mono h fun _ _ _ _ _=>rfl⟩
 ·intro b hb;obtain⟨x,hx⟩:=i.ji hb;exact⟨x,h.I hx⟩
def Gh.env(G:Gh)(fb:Nat)(sv:Value):Gh:={G with E:=G.E++[(fb,sv)]}
theorem Gh.le_env(G:Gh)(fb:Nat)(sv:Value):G.le (G.env fb sv):=⟨_root_.id,_root_.id,fun {i c} h=>by
 show(G.E++[(fb,sv)])[i]? =some c;rw[List.getElem?_append_left (List.getElem?_eq_some_iff.1 h).1];exact h,_root_.id,rfl,rfl,rfl,rfl,rfl,rfl⟩
theorem Inv.pushEnv(i:Inv G S m w){fb:Nat}{sv:Value}{vs:List Vl}{pf:Option Addr}{e:Option Nat}(hf:G.I fb=some (.cells #[sv,.pointer pf] 461 (0,0)))(hp:NRep G e pf)(hr:LRow G w.heap sv vs):
  Inv (G.env fb sv) S {m with envs:=m.envs++[(vs,e)]} w:=by
 have h:=G.le_env fb sv;have hrow:(G.env fb sv).rows=G.rows++rowOf sv:=by
  unfold Gh.rows;show(G.E++[(fb,sv)]).flatMap _=_;rw[List.flatMap_append];simp
 have hmut:(G.env fb sv).mut=G.mut++rowOf sv:=by
  unfold Gh.mut;rw[hrow];simp[Gh.env]
 have hnew:∀b,b∈rowOf sv->b∉G.mut/\G.I b=Option.none/\b<w.heap.size/\¬G.F b:=by
  rcases hr with⟨rfl,a,cap,rfl⟩|⟨g,o,cap,arr,rfl,hne,_,_,hg,hm,hn,hnf,_⟩
  ·intro b hb;cases a <;> simp[rowOf]at hb
  ·obtain⟨v,r,rfl⟩:=List.exists_cons_of_ne_nil hne;intro b hb;have hb:b∈[g]:=hb;simp at hb;subst hb;exact⟨hm,hn,(Array.getElem?_eq_some_iff.1 hg).1,hnf⟩
 have hnd:(rowOf sv).Nodup:=by
  unfold rowOf;split <;> simp
 refine⟨i.imm,?_,?_,?_,i.st,i.ce,i.sl,i.cl,?_,i.mp,?_,i.gd,i.gk,?_,?_,i.jl,i.jn,i.ji,i.fo,i.ff,?_,i.fi⟩
 ·rw[hmut,List.nodup_append];exact⟨i.nd,hnd,fun a ha b hb e=>(hnew b hb).1 (e▸ha)⟩
 ·intro b hb;rw[hmut]at hb;rcases List.mem_append.1 hb with hb|hb
  ·exact i.mi hb
  ·exact(hnew b hb).2.1
 ·intro b hb;rw[hmut]at hb;rcases List.mem_append.1 hb with hb|hb
  ·exact i.ml hb
  ·exact(hnew b hb).2.2.1
 ·obtain⟨gv,wp,a,c⟩:=i.ma;exact⟨gv,wp,a,c.mono h⟩
 ·intro s c hs;obtain⟨x,a,k⟩:=i.gl hs;exact⟨x,a,k.mono h⟩
 ·intro j us e' hj;by_cases hlt:j<m.envs.length
  ·have hj:(m.envs++[(vs,e)])[j]? =some (us,e'):=hj;rw[List.getElem?_append_left hlt]at hj;obtain⟨fb',sv',pf',a,c,d,k⟩:=i.en hj;exact⟨fb',sv',pf',h.E a,c,d.mono h,k.mono h fun _ _ _ _ _=>rfl⟩
  ·have hj:(m.envs++[(vs,e)])[j]? =some (us,e'):=hj;rw[List.getElem?_append_right (by omega)]at hj;obtain⟨hj0,hj⟩:j-m.envs.length=0/\(vs,e)=(us,e'):=by
    rcases hz:j-m.envs.length with _|z
    ·rw[hz]at hj;exact⟨rfl,by simpa using hj⟩
    ·rw[hz]at hj;simp at hj
   cases hj;refine⟨fb,sv,pf,?_,hf,hp.mono h,?_⟩
   ·show(G.E++[(fb,sv)])[j]? =some (fb,sv);rw[List.getElem?_append_right (by rw[i.el];omega),i.el,hj0];rfl
   ·rcases hr with⟨rfl,a,cap,rfl⟩|⟨g,o,cap,arr,rfl,hne,_,_,hg,hm,hn,_,hx⟩
    ·exact .inl ⟨rfl,a,cap,rfl⟩
    ·exact .inr ⟨g,o,cap,arr,rfl,hne,hg,fun q v hv=>by obtain⟨x,e1,e2⟩:=hx q v hv;exact⟨x,e1,e2.mono h⟩⟩
 ·show(G.E++[(fb,sv)]).length=(m.envs++[(vs,e)]).length;simp[i.el]
 ·intro b hb;rw[hmut]at hb;rcases List.mem_append.1 hb with hb|hb
  ·exact i.fm hb
  ·exact(hnew b hb).2.2.2
end
end
section
theorem qai{P:Program}{id:Nat}{Q:Exit->Act->World->Prop}{a:Act}{w:World}{l:List Oper}(n:Nat)(hm:P.follows .mixedOrders=true)(hB:Region.lexTailB .any l.toArray n=true)
  (h:wpStill P l.toArray w.drew (fun a'=>wpList P l.toArray Q (l.drop n) a' w.drew) (l.take n) a):(Code.region id l.toArray true).wp P Q a w:=wp_region_still_tail n hm hB h
theorem qoo(d:Nat)(t:Nat)(v:Value)(w:World):(Op.equalIn (d+1) 116 (.iface t v) .nilIface).run prog w=.ok false w:=by
 simp[Op.equalIn,run_underlying underlying116]
theorem qrv(t:Nat)(v:Value)(w:World):(binOp .neq 116 (.iface t v) .nilIface).run prog w=.ok (.bool true) w:=by
 have e:(Op.equal 116 (.iface t v) .nilIface).run prog w=.ok false w:=qoo 9999 t v w;simp[binOp,e]
theorem qon(d:Nat)(w:World):(Op.equalIn (d+1) 116 .nilIface .nilIface).run prog w=.ok true w:=by
 simp[Op.equalIn,run_underlying underlying116]
theorem qru(w:World):(binOp .neq 116 .nilIface .nilIface).run prog w=.ok (.bool false) w:=by
 have e:(Op.equal 116 .nilIface .nilIface).run prog w=.ok true w:=qon 9999 w;simp[binOp,e]
theorem qfl(b t:Nat)(v:Value)(w:World)(h:w.cell? ⟨b,0,none⟩=some (.iface t v)):Calls prog 369 #[.pointer (some ⟨b,0,none⟩)] w fun e w'=>e=.returned (.tuple #[])/\w'=w:=by
 have he:∀w,(binOp BinOp.neq 116 (.iface t v) .nilIface).run prog w=.ok (.bool true) w:=fun w=>qrv _ _ w
 go_enter func369,ntmps369
 go_wp2_with (go_at_call 273;refine(qbi _ _).mono ?_;rintro e w2 ⟨rfl,hww⟩;obtain rfl:=hww.symm)
 go_end0;exact⟨rfl,rfl⟩
theorem qej(b:Nat)(w:World)(h:w.cell? ⟨b,0,none⟩=some .nilIface):Calls prog 369 #[.pointer (some ⟨b,0,none⟩)] w fun e w'=>e=.panicked (stopP (stopV 5))/\∃o,w'=w.alloc o:=by
 have he:∀w,(binOp BinOp.neq 116 .nilIface .nilIface).run prog w=.ok (.bool false) w:=fun w=>qru w
 go_enter func369,ntmps369
 go_wp2_with (go_at_call 273;refine(qbh _ _).mono ?_;rintro e w2 ⟨rfl,o,rfl⟩)
 exact⟨rfl,rfl,o,rfl⟩
theorem qmk(q b t:Nat)(v:Value)(pf:Option Addr)(k:Nat)(cp:Array Value)(w:World)(Q:Ending->World->Prop)
  (eg:∀args w,(callFunc k args).run prog w=.ok (.enter k args) w)
  (hQ:∀e w,Q e w->(∃v,e=.returned v)\/(∃ps,e=.panicked ps))
  (h1:w.cell? ⟨q,0,none⟩=some (.pointer (some ⟨b,0,none⟩)))(h2:w.cell? ⟨b,0,none⟩=some (.iface t v))
  (hK:∀w',Lk w w'->Calls prog k (#[.iface t v]++cp) w' Q):
  Calls prog 368 #[.pointer pf,.func (.func k) #[] cp,.pointer (some ⟨q,0,none⟩)] w Q:=by
 have HK:=hZ hK;have HQ:=hZ hQ;clear hK hQ;go_enter func368,ntmps368
 go_wp2_with (go_at_call 369;refine(qfl _ _ _ _ h2).mono ?_;rintro e w2 ⟨rfl,hww⟩;obtain rfl:=hww.symm)
 go_wp2_with (go_at_fn k;refine(HK.out _ (by exact⟨rfl,rfl,rfl,rfl⟩)).mono ?_;intro e w2 hq)
 all_goals first|exact hq|exact⟨rfl,hq⟩|(rcases HQ.out _ _ hq with⟨v,h⟩|⟨ps,h⟩ <;> cases h)
theorem qjo(q b:Nat)(pf:Option Addr)(k:Nat)(cp:Array Value)(w:World)
  (h1:w.cell? ⟨q,0,none⟩=some (.pointer (some ⟨b,0,none⟩)))(h2:w.cell? ⟨b,0,none⟩=some .nilIface):
  Calls prog 368 #[.pointer pf,.func (.func k) #[] cp,.pointer (some ⟨q,0,none⟩)] w fun e w'=>e=.panicked (stopP (stopV 5))/\∃o,w'=w.alloc o:=by
 go_enter func368,ntmps368
 go_wp2_with (go_at_call 369;refine(qej _ _ h2).mono ?_;rintro e w2 ⟨rfl,o,rfl⟩)
 exact⟨rfl,rfl,o,rfl⟩
theorem qf5(q b t:Nat)(v x:Value)(pf:Option Addr)(w:World)
  (h1:w.cell? ⟨q,0,none⟩=some (.pointer (some ⟨b,0,none⟩)))(h2:w.cell? ⟨b,0,none⟩=some (.iface t v))(hf:w.frozen? ⟨b,0,none⟩=false)(hx:∃t y,x=.iface t y):
  Calls prog 401 #[.pointer pf,x,.pointer (some ⟨q,0,none⟩)] w fun e w'=>e=.returned (.tuple #[])/\w'=w.setCell ⟨b,0,none⟩ x:=by
 obtain⟨tx,y,rfl⟩:=hx;go_enter func401,ntmps401
 go_wp2_with (go_at_call 369;refine(qfl _ _ _ _ h2).mono ?_;rintro e w2 ⟨rfl,hww⟩;obtain rfl:=hww.symm)
 go_wp2;go_end0;exact⟨rfl,rfl⟩
theorem qe7(q b:Nat)(x:Value)(pf:Option Addr)(w:World)
  (h1:w.cell? ⟨q,0,none⟩=some (.pointer (some ⟨b,0,none⟩)))(h2:w.cell? ⟨b,0,none⟩=some .nilIface):
  Calls prog 401 #[.pointer pf,x,.pointer (some ⟨q,0,none⟩)] w fun e w'=>e=.panicked (stopP (stopV 5))/\∃o,w'=w.alloc o:=by
 go_enter func401,ntmps401
 go_wp2_with (go_at_call 369;refine(qej _ _ h2).mono ?_;rintro e w2 ⟨rfl,o,rfl⟩)
 exact⟨rfl,rfl,o,rfl⟩
theorem qq8(w:World):Calls prog 413 #[.pointer none] w fun e w'=>e=.returned (.int .i64 0)/\w'=w:=by
 go_enter func413,ntmps413
 go_wp2;go_ret;exact⟨rfl,rfl⟩
theorem qns(b:Nat)(n:Int)(w:World)(h:w.cell? ⟨b,2,none⟩=some (.int .i64 n)):Calls prog 413 #[.pointer (some ⟨b,0,none⟩)] w fun e w'=>e=.returned (.int .i64 n)/\w'=w:=by
 go_enter func413,ntmps413
 go_wp2;go_ret;exact⟨rfl,rfl⟩
def Gsize(w:World)(p:Option Addr)(n:Int):Prop:=(p=none/\n=0)\/∃b,p=some ⟨b,0,none⟩/\w.cell? ⟨b,2,none⟩=some (.int .i64 n)
theorem qj9(p:Option Addr)(n:Int)(w:World)(h:Gsize w p n):Calls prog 413 #[.pointer p] w fun e w'=>e=.returned (.int .i64 n)/\w'=w:=by
 rcases h with⟨rfl,rfl⟩|⟨b,rfl,h⟩
 ·exact qq8 w
 ·exact qns b n w h
theorem qqj(p:Option Addr)(n:Int)(t:Nat)(v:Value)(w:World)(h:Gsize w p n)(h0:0<=n)(h1:n<=1000000):
  Calls prog 397 #[.pointer p,.iface t v] w fun e w'=>e=.returned (.pointer (some ⟨w.heap.size,0,none⟩))/\w'=w.alloc (.cells #[.iface t v,.pointer p,.int .i64 (n+1)] 485):=by
 have HS:=hZ (qj9 p n w h);clear h;go_enter func397,ntmps397
 go_wp2_with (go_at_call 413;refine HS.out.mono ?_;rintro e w2 ⟨rfl,hww⟩;obtain rfl:=hww.symm)
 go_wp2;go_ret;exact⟨rfl,rfl⟩
end
section
def tl1(g o cap:Nat):Option Addr:=if cap=1 then some ⟨g,o,none⟩else some ⟨g,o+1,none⟩
theorem qq4(g o n cap:Nat)(_hc:n+1<=cap)(w:World):(Instr.slice 184 (.slice (some ⟨g,o,none⟩) (n+1) cap) (some (.int .i64 1)) none none).run prog w=.ok (.slice (tl1 g o cap) n (cap-1)) w:=by
 have h1:(1:Int)<=((n+1:Nat):Int):=by omega
 simp[Instr.slice,Instr.sliceBounds,run_underlying underlying184,go_sem,tl1];intro h;omega
theorem qj7(g o n cap:Nat)(_hc:n+1<=cap)(w:World):(Instr.slice 426 (.slice (some ⟨g,o,none⟩) (n+1) cap) (some (.int .i64 1)) none none).run prog w=.ok (.slice (tl1 g o cap) n (cap-1)) w:=by
 have h1:(1:Int)<=((n+1:Nat):Int):=by omega
 simp[Instr.slice,Instr.sliceBounds,run_underlying underlying426,go_sem,tl1];intro h;omega
theorem qev(mb g o n cap k:Nat)(cp:Array Value)(pf pd:Option Addr)(ku:Nat)(cu:Array Value)(w:World)(Q:Ending->World->Prop)
  (eg:∀args w,(callFunc k args).run prog w=.ok (.enter k args) w)
  (hQ:∀e w,Q e w->(∃v,e=.returned v)\/(∃ps,e=.panicked ps))
  (hc:w.cell? ⟨g,o,none⟩=some (.func (.func k) #[] cp))
  (hK:∀w',Lk (((((w.alloc (.cells #[.pointer (some ⟨mb,0,none⟩)] 107)).alloc (.cells #[.slice (some ⟨g,o,none⟩) (n+1) cap] 426)).alloc (.cells #[.pointer pf] 378)).alloc (.cells #[.pointer pd] 470)).alloc (.cells #[.func (.func ku) #[] cu] 450)) w'->
   Calls prog k (#[.pointer pf,.func (.func 396) #[] #[.pointer (some ⟨w.heap.size,0,none⟩),.pointer (some ⟨w.heap.size+1,0,none⟩),.pointer (some ⟨w.heap.size+2,0,none⟩),.pointer (some ⟨w.heap.size+3,0,none⟩),.pointer (some ⟨w.heap.size+4,0,none⟩)]]++cp) w' Q):
  Calls prog 371 #[.pointer (some ⟨mb,0,none⟩),.slice (some ⟨g,o,none⟩) (n+1) cap,.pointer pf,.pointer pd,.func (.func ku) #[] cu] w Q:=by
 have HK:=hZ hK;have HQ:=hZ hQ;have kc:∀o1 o2 o3 o4 o5:Obj,(((((w.alloc o1).alloc o2).alloc o3).alloc o4).alloc o5).cell? ⟨g,o,none⟩=some (.func (.func k) #[] cp):=fun o1 o2 o3 o4 o5=>by
  rw[<-hc];exact qjw (qac hc) o1 o2 o3 o4 o5
 have h0:(((n+1:Nat):Int)==0)=false:=by simp;omega
 have hnat:(0:Int)<(n:Int)+1:=by omega
 clear hK hQ;go_enter func371,ntmps371
 go_wp2;refine qai 5 (by kernel_rfl) (by kernel_rfl) ?_;simp only[List.take_succ_cons,List.take_zero,List.drop_succ_cons,List.drop_zero];repeat still_step
 refine wpStill_nil ?_;go_wp2_with (go_at_fn k;refine(HK.out _ (by exact⟨rfl,rfl,rfl,rfl⟩)).mono ?_;intro e w2 hq)
 all_goals first|exact hq|exact⟨rfl,hq⟩|(rcases HQ.out _ _ hq with⟨v,h⟩|⟨ps,h⟩ <;> cases h)
theorem app11(q1 q2 mb g o n cap t ku:Nat)(v:Value)(cu:Array Value)(w:World)(Q:Ending->World->Prop)
  (hQ:∀e w,Q e w->(∃v,e=.returned v)\/(∃ps,e=.panicked ps))
  (h1:w.cell? ⟨q1,0,none⟩=some (.pointer (some ⟨mb,0,none⟩)))(h2:w.cell? ⟨q2,0,none⟩=some (.func (.func ku) #[] cu))
  (h3:w.cell? ⟨g,o,none⟩=some (.iface t v))(hc:n+1<=cap)(hm:n+1<=1000000)
  (hK:∀w',Lk w w'->Calls prog 283 #[.pointer (some ⟨mb,0,none⟩),.iface t v,.slice (tl1 g o cap) n (cap-1),.func (.func ku) #[] cu] w' Q):
  Calls prog 372 #[.slice (some ⟨g,o,none⟩) (n+1) cap,.pointer (some ⟨q1,0,none⟩),.pointer (some ⟨q2,0,none⟩)] w Q:=by
 have HK:=hZ hK;have HQ:=hZ hQ;have hnat:(0:Int)<(n:Int)+1:=by omega
 have hsl:∀w,(Instr.slice 184 (.slice (some ⟨g,o,none⟩) (n+1) cap) (some (.int .i64 1)) none none).run prog w=.ok (.slice (tl1 g o cap) n (cap-1)) w:=fun w=>qq4 g o n cap hc w
 clear hK hQ;go_enter func372,ntmps372
 go_wp2;refine qai 7 (by kernel_rfl) (by kernel_rfl) ?_;simp only[List.take_succ_cons,List.take_zero,List.drop_succ_cons,List.drop_zero];repeat still_step
 refine wpStill_nil ?_;go_wp2_with (go_at_call 283;refine(HK.out _ (by exact⟨rfl,rfl,rfl,rfl⟩)).mono ?_;intro e w2 hq)
 all_goals first|exact hq|exact⟨rfl,hq⟩|(rcases HQ.out _ _ hq with⟨v,h⟩|⟨ps,h⟩ <;> cases h)
theorem qqg(q1 q2 q3 b k:Nat)(cp:Array Value)(sa:Option Addr)(sn sc ku:Nat)(cu:Array Value)(w:World)(Q:Ending->World->Prop)
  (eg:∀args w,(callFunc k args).run prog w=.ok (.enter k args) w)
  (hQ:∀e w,Q e w->(∃v,e=.returned v)\/(∃ps,e=.panicked ps))
  (h1:w.cell? ⟨q1,0,none⟩=some (.pointer (some ⟨b,0,none⟩)))(hb:w.cell? ⟨b,0,none⟩=some (.func (.func k) #[] cp))(h2:w.cell? ⟨q2,0,none⟩=some (.slice sa sn sc))(h3:w.cell? ⟨q3,0,none⟩=some (.func (.func ku) #[] cu))
  (hK:∀w',Lk w w'->Calls prog k (#[.slice sa sn sc,.func (.func ku) #[] cu]++cp) w' Q):
  Calls prog 311 #[.pointer (some ⟨q1,0,none⟩),.pointer (some ⟨q2,0,none⟩),.pointer (some ⟨q3,0,none⟩)] w Q:=by
 have HK:=hZ hK;have HQ:=hZ hQ;clear hK hQ;go_enter func311,ntmps311
 go_wp2;refine qai 6 (by kernel_rfl) (by kernel_rfl) ?_;simp only[List.take_succ_cons,List.take_zero,List.drop_succ_cons,List.drop_zero];repeat still_step
 refine wpStill_nil ?_;go_wp2_with (go_at_fn k;refine(HK.out _ (by exact⟨rfl,rfl,rfl,rfl⟩)).mono ?_;intro e w2 hq)
 all_goals first|exact hq|exact⟨rfl,hq⟩|(rcases HQ.out _ _ hq with⟨v,h⟩|⟨ps,h⟩ <;> cases h)
theorem gather1(q1 q2 q3 q4 q5 mb g o n cap t ku:Nat)(v:Value)(pf pd:Option Addr)(c:Int)(cu:Array Value)(w:World)(Q:Ending->World->Prop)
  (hQ:∀e w,Q e w->(∃v,e=.returned v)\/(∃ps,e=.panicked ps))
  (h1:w.cell? ⟨q1,0,none⟩=some (.pointer (some ⟨mb,0,none⟩)))(h2:w.cell? ⟨q2,0,none⟩=some (.slice (some ⟨g,o,none⟩) (n+1) cap))(h3:w.cell? ⟨q3,0,none⟩=some (.pointer pf))
  (hS:∀v w',Q (.returned v) w'->w'.cell? ⟨q1,0,none⟩=some (.pointer (some ⟨mb,0,none⟩))/\w'.cell? ⟨q2,0,none⟩=some (.slice (some ⟨g,o,none⟩) (n+1) cap)/\w'.cell? ⟨q3,0,none⟩=some (.pointer pf)/\w'.cell? ⟨q4,0,none⟩=some (.pointer pd)/\w'.cell? ⟨q5,0,none⟩=some (.func (.func ku) #[] cu))
  (h4:w.cell? ⟨q4,0,none⟩=some (.pointer pd))(h5:w.cell? ⟨q5,0,none⟩=some (.func (.func ku) #[] cu))(hg:Gsize w pd c)(h0:0<=c)(hc1:c<=1000000)(hc:n+1<=cap)(hm:n+1<=1000000)
  (hK:∀w',Lk (w.alloc (.cells #[.iface t v,.pointer pd,.int .i64 (c+1)] 485)) w'->Calls prog 371 #[.pointer (some ⟨mb,0,none⟩),.slice (tl1 g o cap) n (cap-1),.pointer pf,.pointer (some ⟨w.heap.size,0,none⟩),.func (.func ku) #[] cu] w' Q):
  Calls prog 396 #[.iface t v,.pointer (some ⟨q1,0,none⟩),.pointer (some ⟨q2,0,none⟩),.pointer (some ⟨q3,0,none⟩),.pointer (some ⟨q4,0,none⟩),.pointer (some ⟨q5,0,none⟩)] w Q:=by
 have HK:=hZ hK;have HQ:=hZ hQ;have hnat:(0:Int)<(n:Int)+1:=by omega
 have hsl:∀w,(Instr.slice 426 (.slice (some ⟨g,o,none⟩) (n+1) cap) (some (.int .i64 1)) none none).run prog w=.ok (.slice (tl1 g o cap) n (cap-1)) w:=fun w=>qj7 g o n cap hc w
 have HS:=hZ hS;have HG:Hid (∀w',Lk w w'->Gsize w' pd c):=fun w' hw=>by
  rcases hg with h|⟨b,e1,e2⟩
  ·exact .inl h
  ·exact .inr ⟨b,e1,by rw[World.cell?,hw.heap];exact e2⟩
 have l1:=qac h1;have l2:=qac h2;have l3:=qac h3;have l4:=qac h4;have l5:=qac h5;have k5:∀o:Obj,(w.alloc o).cell? ⟨q5,0,none⟩=some (.func (.func ku) #[] cu):=fun o=>(qad l5 o).trans h5
 have k1:∀o:Obj,(w.alloc o).cell? ⟨q1,0,none⟩=some (.pointer (some ⟨mb,0,none⟩)):=fun o=>(qad l1 o).trans h1
 have k2:∀x:Obj,(w.alloc x).cell? ⟨q2,0,none⟩=some (.slice (some ⟨g,o,none⟩) (n+1) cap):=fun x=>(qad l2 x).trans h2
 have k3:∀o:Obj,(w.alloc o).cell? ⟨q3,0,none⟩=some (.pointer pf):=fun o=>(qad l3 o).trans h3
 have k4:∀o:Obj,(w.alloc o).cell? ⟨q4,0,none⟩=some (.pointer pd):=fun o=>(qad l4 o).trans h4
 clear hK hQ hS hg l1 l2 l3 l4 l5;go_enter func396,ntmps396
 go_wp2;go_region_held2 (fun w'=>w'.cell? ⟨q1,0,none⟩=some (.pointer (some ⟨mb,0,none⟩))/\w'.cell? ⟨q2,0,none⟩=some (.slice (some ⟨g,o,none⟩) (n+1) cap)/\w'.cell? ⟨q3,0,none⟩=some (.pointer pf)/\w'.cell? ⟨q4,0,none⟩=some (.pointer pd)/\w'.cell? ⟨q5,0,none⟩=some (.func (.func ku) #[] cu)) (first|(exact HS.out _ _ hq)|go_keep)
  (first|(go_at_call 397;refine(qqj pd c t v _ (HG.out _ (by exact⟨rfl,rfl,rfl,rfl⟩)) h0 hc1).mono ?_;rintro e w2 ⟨rfl,rfl⟩)|(go_at_call 371;refine(HK.out _ (by exact⟨rfl,rfl,rfl,rfl⟩)).mono ?_;intro e w2 hq;rcases HQ.out _ _ hq with⟨v,rfl⟩|⟨ps,rfl⟩;rotate_left;(exact⟨rfl,hq⟩)))
 go_wp2;exact hq
end
end Go.Proofs.YtldaocpojcfljaaGreatDoor
