import Derived.Test.YtldaocpojcfljaaGreatDoorC08
set_option maxRecDepth 100000
set_option maxHeartbeats 4000000
namespace Go.Proofs.YtldaocpojcfljaaGreatDoor
open Tryz hiding parts
open Go.RowKit Go.Shelf
section
open Sc
abbrev bp (b:Nat):Value:=.pointer (some ⟨b,0,none⟩)
structure Gh where
 I:Nat→Option Obj
 J:List Nat
 E:List (Nat×Value)
 B:List (Bs×Nat)
 P:Pm→Nat
 K:Nat→Nat
 mb:Nat
 sb:Nat
 cb:Nat
 mp:Nat
 W:World
 F:Nat→Prop
structure Gh.le (G H:Gh):Prop where
 I:∀{b:Nat} {o:Obj},G.I b=some o→H.I b=some o
 J:∀{i b:Nat},G.J[i]? =some b→H.J[i]? =some b
 E:∀{i:Nat} {p:Nat×Value},G.E[i]? =some p→H.E[i]? =some p
 B:∀{s:Bs} {b:Nat},(s,b)∈G.B→(s,b)∈H.B
 P:H.P=G.P
 K:H.K=G.K
 mb:H.mb=G.mb
 sb:H.sb=G.sb
 cb:H.cb=G.cb
 mp:H.mp=G.mp
theorem Gh.le.refl (G:Gh):G.le G:=⟨id,id,id,id,rfl,rfl,rfl,rfl,rfl,rfl⟩
theorem Gh.le.trans {G H L:Gh} (a:G.le H) (b:H.le L):G.le L:=
 ⟨fun h=>b.I (a.I h),fun h=>b.J (a.J h),fun h=>b.E (a.E h),fun h=>b.B (a.B h),b.P.trans a.P,b.K.trans a.K,b.mb.trans a.mb,b.sb.trans a.sb,b.cb.trans a.cb,b.mp.trans a.mp⟩
abbrev Gh.mbox (G:Gh) (q:Nat):Prop:=G.I q=some (.cells #[bp G.mb] 107 (0,0))
theorem Gh.le.mbox {G H:Gh} (h:G.le H) {q:Nat} (a:G.mbox q):H.mbox q:=by unfold Gh.mbox;rw [h.mb];exact h.I a
inductive NRep (G:Gh):Option Nat→Option Addr→Prop where
 |none:NRep G none none
 |some (i fb:Nat) (sv:Value) (h:G.E[i]? =some (fb,sv)):NRep G (some i) (some ⟨fb,0,none⟩)
theorem NRep.mono {G H:Gh} (h:G.le H):∀{e p},NRep G e p→NRep H e p
 |_,_,.none=>.none
 |_,_,.some i fb sv a=>.some i fb sv (h.E a)
inductive Sh (G:Gh):List Nat→Option Addr→Prop where
 |nil (p:Option Addr):Sh G [] p
 |cons (n:Nat) (sh:List Nat) (fb:Nat) (a:Option Addr) (cap:Nat) (q:Option Addr) (h:G.I fb=some (.cells #[.slice a n cap,.pointer q] 461 (0,0))) (hs:Sh G sh q):Sh G (n::sh) (some ⟨fb,0,none⟩)
theorem Sh.mono {G H:Gh} (h:G.le H):∀{sh p},Sh G sh p→Sh H sh p
 |_,_,.nil p=>.nil p
 |_,_,.cons n sh fb a cap q x y=>.cons n sh fb a cap q (h.I x) (Sh.mono h y)
inductive BRep (G:Gh):Nat→Bool→Value→Prop where
 |num (n q1 q2:Nat) (h1:G.I q1=some (.cells #[.int .i64 (n:Int)] 3 (0,0))) (h2:G.mbox q2):BRep G n false (.func (.func 363) #[] #[bp q1,bp q2])
 |rest (q:Nat) (h:G.mbox q):BRep G 1 true (.func (.func 358) #[] #[bp q])
theorem BRep.mono {G H:Gh} (h:G.le H):∀{n r x},BRep G n r x→BRep H n r x
 |_,_,_,.num n q1 q2 a b=>.num n q1 q2 (h.I a) (h.mbox b)
 |_,_,_,.rest q a=>.rest q (h.mbox a)
structure Dl where
 k:Int
 n:Int
 tr:Bool
 tx:ByteArray
 m:Int
 a:Option Addr
 len:Nat
 cap:Nat
abbrev Dl.cells (e:Dl):Array Value:=#[.int .i64 e.k,.int .i64 e.n,.bool e.tr,.string e.tx,.int .i64 e.m,.slice e.a e.len e.cap]
mutual
inductive DRep (G:Gh):Dt→Dl→Prop where
 |num (e:Dl) (h:e.k=0) (h0:-9223372036854775808≤e.n) (h1:e.n≤9223372036854775807) (hc:e.len=0∧e.tr=false∧e.tx=⟨#[]⟩):DRep G (.num e.n) e
 |bool (e:Dl) (h:e.k=1) (hc:e.len=0∧e.n=0∧e.tx=⟨#[]⟩):DRep G (.bool e.tr) e
 |str (e:Dl) (h:e.k=2) (hz:e.tx.size≤1000000000) (hc:e.len=0∧e.n=0∧e.tr=false):DRep G (.str e.tx.data.toList) e
 |sym (e:Dl) (h:e.k=3) (hz:e.tx.size≤1000000000) (hc:e.len=0):DRep G (.sym e.tx.data.toList e.m) e
 |nil (e:Dl) (h:e.k=4) (hl:e.len=0):DRep G (.list []) e
 |list (e:Dl) (h:e.k=4) (l:List Dt) (es:List Dl) (g o:Nat) (arr:Array Value) (hl:e.len=es.length) (hc:e.len≤e.cap) (hm:e.len≤30000) (ha:e.a=some ⟨g,o,none⟩) (hg:G.I g=some (.cells arr 134 (0,0)))
   (hr:∀(i j:Nat) (x:Dl),es[i]? =some x→j<6→arr[o+i*6+j]? =x.cells[j]?) (hs:DsRep G l es):DRep G (.list l) e
inductive DsRep (G:Gh):List Dt→List Dl→Prop where
 |nil:DsRep G [] []
 |cons (d:Dt) (r:List Dt) (e:Dl) (es:List Dl) (h:DRep G d e) (hs:DsRep G r es):DsRep G (d::r) (e::es)
end
mutual
theorem DRep.mono {G H:Gh} (h:G.le H):∀{d e},DRep G d e→DRep H d e
 |_,_,.num e a b c d=>.num e a b c d
 |_,_,.bool e a b=>.bool e a b
 |_,_,.str e a b c=>.str e a b c
 |_,_,.sym e a b c=>.sym e a b c
 |_,_,.nil e a b=>.nil e a b
 |_,_,.list e a l es g o arr hl hc hm ha hg hr hs=>.list e a l es g o arr hl hc hm ha (h.I hg) hr (DsRep.mono h hs)
theorem DsRep.mono {G H:Gh} (h:G.le H):∀{d e},DsRep G d e→DsRep H d e
 |_,_,.nil=>.nil
 |_,_,.cons d r e es a b=>.cons d r e es (DRep.mono h a) (DsRep.mono h b)
end
def RowI (G:Gh) (ty:Nat) (sl:Value) (xs:List Value):Prop:=∃g o cap arr,sl=.slice (some ⟨g,o,none⟩) xs.length cap∧G.I g=some (.cells arr ty (0,0))∧xs.length≤cap∧xs.length≤1000000∧∀i x,xs[i]? =some x→arr[o+i]? =some x
theorem RowI.mono {G H:Gh} (h:G.le H) {ty:Nat} {sl:Value} {xs:List Value}:RowI G ty sl xs→RowI H ty sl xs
 |⟨g,o,cap,arr,a,b,c,d,e⟩=>⟨g,o,cap,arr,a,h.I b,c,d,e⟩
inductive TRep (G:Gh):List Nat→Tg→Value→Prop where
 |loc (sh:List Nat) (u i n q:Nat) (hs:sh[u]? =some n) (hi:i<n) (hb:u≤1000000000∧n≤1000000000) (h:G.I q=some (.cells #[.int .i64 (u:Int),.int .i64 (i:Int)] 395 (0,0))):TRep G sh (.loc u i) (.func (.func 400) #[] #[bp q])
 |glo (sh:List Nat) (s:Bs) (q b:Nat) (h:G.I q=some (.cells #[bp b] 319 (0,0))) (hb:(s,b)∈G.B):TRep G sh (.glo s) (.func (.func 401) #[] #[bp q])
 |def' (sh:List Nat) (s:Bs) (q1 q2:Nat) (t:ByteArray) (h1:G.mbox q1) (h2:G.I q2=some (.cells #[.string t] 9 (0,0))) (ht:t.data.toList=s):TRep G sh (.def' s) (.func (.func 322) #[] #[bp q1,bp q2])
theorem TRep.mono {G H:Gh} (h:G.le H):∀{sh t x},TRep G sh t x→TRep H sh t x
 |_,_,_,.loc sh u i n q c d f a=>.loc sh u i n q c d f (h.I a)
 |_,_,_,.glo sh s q b a c=>.glo sh s q b (h.I a) (h.B c)
 |_,_,_,.def' sh s q1 q2 t a b c=>.def' sh s q1 q2 t (h.mbox a) (h.I b) c
mutual
inductive CRep (G:Gh):List Nat→Ex→Value→Prop where
 |step (sh:List Nat) (e:Ex) (pm pc:Nat) (y:Value) (h1:G.mbox pm) (h2:G.I pc=some (.cells #[y] 241 (0,0))) (h:IRep G sh e y):CRep G sh e (.func (.func 376) #[] #[bp pm,bp pc])
inductive IRep (G:Gh):List Nat→Ex→Value→Prop where
 |quo (sh:List Nat) (d:Dt) (q1 q2 q3:Nat) (e:Dl) (h1:G.mbox q1) (h2:G.I q2=some (.cells #[.int .i64 (members d:Int)] 3 (0,0))) (h3:G.I q3=some (.cells e.cells 134 (0,0))) (hd:DRep G d e):IRep G sh (.quo d) (.func (.func 340) #[] #[bp q1,bp q2,bp q3])
 |loc (sh:List Nat) (u i n q:Nat) (hs:sh[u]? =some n) (hi:i<n) (hb:u≤1000000000∧n≤1000000000) (h:G.I q=some (.cells #[.int .i64 (u:Int),.int .i64 (i:Int)] 395 (0,0))):IRep G sh (.loc u i) (.func (.func 366) #[] #[bp q])
 |glo (sh:List Nat) (s:Bs) (q b:Nat) (h:G.I q=some (.cells #[bp b] 319 (0,0))) (hb:(s,b)∈G.B):IRep G sh (.glo s) (.func (.func 368) #[] #[bp q])
 |ite (sh:List Nat) (c t:Ex) (e:Option Ex) (q1 q2 q3:Nat) (xc xe xt:Value) (h1:G.I q1=some (.cells #[xc] 241 (0,0))) (h2:G.I q2=some (.cells #[xe] 241 (0,0))) (h3:G.I q3=some (.cells #[xt] 241 (0,0)))
   (hc:CRep G sh c xc) (ht:CRep G sh t xt) (he:ORep G sh e xe):IRep G sh (.ite c t e) (.func (.func 398) #[] #[bp q1,bp q2,bp q3])
 |setL (sh:List Nat) (u i:Nat) (a:Ex) (q1 q2:Nat) (xa xs:Value) (h1:G.I q1=some (.cells #[xa] 241 (0,0))) (h2:G.I q2=some (.cells #[xs] 413 (0,0))) (ha:CRep G sh a xa) (hs:TRep G sh (.loc u i) xs):IRep G sh (.setL u i a) (.func (.func 355) #[] #[bp q1,bp q2])
 |setG (sh:List Nat) (s:Bs) (a:Ex) (q1 q2:Nat) (xa xs:Value) (h1:G.I q1=some (.cells #[xa] 241 (0,0))) (h2:G.I q2=some (.cells #[xs] 413 (0,0))) (ha:CRep G sh a xa) (hs:TRep G sh (.glo s) xs):IRep G sh (.setG s a) (.func (.func 355) #[] #[bp q1,bp q2])
 |defG (sh:List Nat) (s:Bs) (a:Ex) (q1 q2:Nat) (xa xs:Value) (h1:G.I q1=some (.cells #[xa] 241 (0,0))) (h2:G.I q2=some (.cells #[xs] 413 (0,0))) (ha:CRep G sh a xa) (hs:TRep G sh (.def' s) xs):IRep G sh (.defG s a) (.func (.func 355) #[] #[bp q1,bp q2])
 |lam (sh:List Nat) (n:Nat) (r:Bool) (l:List Ex) (q1 q2 q3:Nat) (xb xl:Value) (h1:G.mbox q1) (h2:G.I q2=some (.cells #[xl] 241 (0,0))) (h3:G.I q3=some (.cells #[xb] 440 (0,0)))
   (hl:SRep G (n::sh) l xl) (hb:BRep G n r xb):IRep G sh (.lam n r l) (.func (.func 382) #[] #[bp q1,bp q2,bp q3])
 |app (sh:List Nat) (f:Ex) (l:List Ex) (q1 q2:Nat) (sl:Value) (xs:List Value) (h1:G.mbox q1) (h2:G.I q2=some (.cells #[sl] 426 (0,0))) (hb:xs.length≤90000) (hr:RowI G 241 sl xs) (hx:XRep G sh (f::l) xs):IRep G sh (.app f l) (.func (.func 370) #[] #[bp q1,bp q2])
 |seq (sh:List Nat) (a:Ex) (l:List Ex) (y:Value) (h:SRep G sh (a::l) y):IRep G sh (.seq a l) y
inductive ORep (G:Gh):List Nat→Option Ex→Value→Prop where
 |none (sh:List Nat):ORep G sh none (.func (.func 235) #[] #[])
 |some (sh:List Nat) (e:Ex) (x:Value) (h:CRep G sh e x):ORep G sh (some e) x
inductive SRep (G:Gh):List Nat→List Ex→Value→Prop where
 |one (sh:List Nat) (e:Ex) (x:Value) (h:CRep G sh e x):SRep G sh [e] x
 |cons (sh:List Nat) (e a:Ex) (r:List Ex) (q1 q2:Nat) (x y:Value) (h1:G.I q1=some (.cells #[x] 241 (0,0))) (h2:G.I q2=some (.cells #[y] 241 (0,0))) (h:CRep G sh e x) (hs:SRep G sh (a::r) y):SRep G sh (e::a::r) (.func (.func 384) #[] #[bp q1,bp q2])
inductive XRep (G:Gh):List Nat→List Ex→List Value→Prop where
 |nil (sh:List Nat):XRep G sh [] []
 |cons (sh:List Nat) (e:Ex) (r:List Ex) (x:Value) (xs:List Value) (h:CRep G sh e x) (hs:XRep G sh r xs):XRep G sh (e::r) (x::xs)
end
mutual
theorem CRep.mono {G H:Gh} (h:G.le H):∀{sh e x},CRep G sh e x→CRep H sh e x
 |_,_,_,.step sh e pm pc y a b c=>.step sh e pm pc y (h.mbox a) (h.I b) (IRep.mono h c)
theorem IRep.mono {G H:Gh} (h:G.le H):∀{sh e x},IRep G sh e x→IRep H sh e x
 |_,_,_,.quo sh d q1 q2 q3 e a b c k=>.quo sh d q1 q2 q3 e (h.mbox a) (h.I b) (h.I c) (k.mono h)
 |_,_,_,.loc sh u i n q c d f a=>.loc sh u i n q c d f (h.I a)
 |_,_,_,.glo sh s q b a c=>.glo sh s q b (h.I a) (h.B c)
 |_,_,_,.ite sh c t e q1 q2 q3 xc xe xt a b d hc ht he=>.ite sh c t e q1 q2 q3 xc xe xt (h.I a) (h.I b) (h.I d) (CRep.mono h hc) (CRep.mono h ht) (ORep.mono h he)
 |_,_,_,.setL sh u i a q1 q2 xa xs h1 h2 ha hs=>.setL sh u i a q1 q2 xa xs (h.I h1) (h.I h2) (CRep.mono h ha) (hs.mono h)
 |_,_,_,.setG sh s a q1 q2 xa xs h1 h2 ha hs=>.setG sh s a q1 q2 xa xs (h.I h1) (h.I h2) (CRep.mono h ha) (hs.mono h)
 |_,_,_,.defG sh s a q1 q2 xa xs h1 h2 ha hs=>.defG sh s a q1 q2 xa xs (h.I h1) (h.I h2) (CRep.mono h ha) (hs.mono h)
 |_,_,_,.lam sh n r l q1 q2 q3 xb xl h1 h2 h3 hl hb=>.lam sh n r l q1 q2 q3 xb xl (h.mbox h1) (h.I h2) (h.I h3) (SRep.mono h hl) (hb.mono h)
 |_,_,_,.app sh f l q1 q2 sl xs h1 h2 hb hr hx=>.app sh f l q1 q2 sl xs (h.mbox h1) (h.I h2) hb (hr.mono h) (XRep.mono h hx)
 |_,_,_,.seq sh a l y hs=>.seq sh a l y (SRep.mono h hs)
theorem ORep.mono {G H:Gh} (h:G.le H):∀{sh e x},ORep G sh e x→ORep H sh e x
 |_,_,_,.none sh=>.none sh
 |_,_,_,.some sh e x a=>.some sh e x (CRep.mono h a)
theorem SRep.mono {G H:Gh} (h:G.le H):∀{sh e x},SRep G sh e x→SRep H sh e x
 |_,_,_,.one sh e x a=>.one sh e x (CRep.mono h a)
 |_,_,_,.cons sh e a r q1 q2 x y h1 h2 hc hs=>.cons sh e a r q1 q2 x y (h.I h1) (h.I h2) (CRep.mono h hc) (SRep.mono h hs)
theorem XRep.mono {G H:Gh} (h:G.le H):∀{sh e x},XRep G sh e x→XRep H sh e x
 |_,_,_,.nil sh=>.nil sh
 |_,_,_,.cons sh e r x xs a b=>.cons sh e r x xs (CRep.mono h a) (XRep.mono h b)
end
end
section
open Sc
def Sc.Pm.wrapF:Pm→Nat
 | .add=>257| .sub=>257| .mul=>257| .quot=>257| .rem=>257| .eql=>257| .lss=>257
 | .cons=>270| .car=>271| .cdr=>271| .nullQ=>268| .pairQ=>268| .intQ=>268| .symQ=>268| .strQ=>268| .boolQ=>268| .procQ=>268| .sealQ=>268
 | .not=>268| .eqQ=>270| .equalQ=>270| .list=>204| .length=>268| .append=>270| .strAppend=>274| .strLength=>276| .numStr=>277| .symStr=>278
 | .apply=>280| .callcc=>284| .wind=>286| .error=>268| .seal=>268|_=>0
def Sc.Pm.workF:Pm→Nat
 | .add=>178| .sub=>179| .mul=>180| .quot=>181| .rem=>182| .eql=>183| .lss=>184
 | .cons=>199| .car=>202| .cdr=>203| .nullQ=>260| .pairQ=>261| .intQ=>262| .symQ=>263| .strQ=>264| .boolQ=>265| .procQ=>266| .sealQ=>267
 | .not=>194| .eqQ=>196| .equalQ=>197| .length=>205| .append=>208| .strAppend=>211| .strLength=>215| .numStr=>217| .symStr=>220
 | .error=>224| .seal=>225|_=>0
def Sc.Pm.workT:Pm→Nat
 | .add=>283| .sub=>283| .mul=>283| .quot=>283| .rem=>283| .eql=>283| .lss=>283
 | .cons=>289| .car=>293| .cdr=>293| .nullQ=>287| .pairQ=>287| .intQ=>287| .symQ=>287| .strQ=>287| .boolQ=>287| .procQ=>287| .sealQ=>287
 | .not=>287| .eqQ=>289| .equalQ=>289| .length=>287| .append=>289| .strAppend=>306| .strLength=>308| .numStr=>310| .symStr=>312
 | .error=>287| .seal=>287|_=>0
def Sc.Pm.form:Pm→Nat
 | .cons=>1| .equalQ=>1| .length=>1| .append=>1| .strAppend=>1| .numStr=>1| .symStr=>1| .seal=>1
 | .list=>2| .apply=>2| .callcc=>2| .wind=>2
 | .write=>3| .readLine=>3| .tick=>3| .roll=>3| .unseal=>3
 |_=>0
inductive PRep (G:Gh):Pm→Value→Prop where
 |bare (p:Pm) (q:Nat) (hf:p.form=0) (h:G.I q=some (.cells #[.func (.func p.workF) #[] #[]] p.workT (0,0))):PRep G p (.func (.func p.wrapF) #[] #[bp q])
 |mach (p:Pm) (q r:Nat) (hf:p.form=1) (h:G.I q=some (.cells #[.func (.func p.workF) #[] #[bp r]] p.workT (0,0))) (hr:G.mbox r):PRep G p (.func (.func p.wrapF) #[] #[bp q])
 |self (p:Pm) (q:Nat) (hf:p.form=2) (h:G.mbox q):PRep G p (.func (.func p.wrapF) #[] #[bp q])
theorem PRep.mono {G H:Gh} (h:G.le H):∀{p x},PRep G p x→PRep H p x
 |_,_,.bare p q a b=>.bare p q a (h.I b)
 |_,_,.mach p q r a b c=>.mach p q r a (h.I b) (h.mbox c)
 |_,_,.self p q a b=>.self p q a (h.mbox b)
mutual
inductive VRep (G:Gh):Vl→Value→Prop where
 |num (n:Int) (h0:-9223372036854775808≤n) (h1:n≤9223372036854775807):VRep G (.num n) (.iface 180 (.int .i64 n))
 |bool (b:Bool):VRep G (.bool b) (.iface 181 (.bool b))
 |str (t:ByteArray) (hz:t.size≤1000000000):VRep G (.str t.data.toList) (.iface 182 (.string t))
 |sym (t:ByteArray) (hz:t.size≤1000000000):VRep G (.sym t.data.toList) (.iface 183 (.string t))
 |nil:VRep G .nil (.iface 186 (.agg #[]))
 |none:VRep G .none (.iface 379 (.agg #[]))
 |pair (id b:Nat) (v u:Vl) (x y:Value) (hj:G.J[id]? =some b) (hb:G.I b=some (.cells #[x,y] 252 (0,0))) (h1:VRep G v x) (h2:VRep G u y):VRep G (.pair id v u) (.iface 246 (bp b))
 |proc (v:Vl) (b:Nat) (h:QRep G v b):VRep G v (.iface 281 (bp b))
 |seal (id b q:Nat) (v:Vl) (x:Value) (hj:G.J[id]? =some b) (hb:G.I b=some (.cells #[.func (.func 226) #[] #[bp q]] 316 (0,0))) (hq:G.I q=some (.cells #[x] 116 (0,0))) (h:VRep G v x):VRep G (.seal id v) (.iface 285 (bp b))
 |sealD (id b q1 q2:Nat) (d:Dt) (e:Dl) (hj:G.J[id]? =some b) (hb:G.I b=some (.cells #[.func (.func 228) #[] #[bp q1,bp q2]] 316 (0,0))) (h1:G.mbox q1) (h2:G.I q2=some (.cells e.cells 134 (0,0))) (h:DRep G d e):VRep G (.sealD id d) (.iface 285 (bp b))
 |grant (n:Nat) (h:G.I (G.K n)=some (.cells #[.int .i64 (n:Int)] 324 (0,0))):VRep G (.grant n) (.iface 322 (bp (G.K n)))
inductive QRep (G:Gh):Vl→Nat→Prop where
 |lam (sh:List Nat) (id n:Nat) (r:Bool) (l:List Ex) (env:Option Nat) (b q1 q2 q3:Nat) (xl xb:Value) (pf:Option Addr) (hj:G.J[id]? =some b) (hb:G.I b=some (.cells #[.func (.func 383) #[] #[bp q1,bp q2,bp q3]] 300 (0,0)))
   (h1:G.I q1=some (.cells #[xl] 241 (0,0))) (h2:G.I q2=some (.cells #[xb] 440 (0,0))) (h3:G.I q3=some (.cells #[.pointer pf] 378 (0,0))) (hl:SRep G (n::sh) l xl) (hx:BRep G n r xb) (he:NRep G env pf) (hs:Sh G sh pf):QRep G (.lam id n r l env) b
 |prim (p:Pm) (x:Value) (hb:G.I (G.P p)=some (.cells #[x] 300 (0,0))) (hp:PRep G p x):QRep G (.prim p) (G.P p)
 |cont (id:Nat) (k:List Fr) (ws:List Wn) (b q1 q2 q3:Nat) (u:Value) (wp:Option Addr) (hj:G.J[id]? =some b) (hb:G.I b=some (.cells #[.func (.func 312) #[] #[bp q1,bp q2,bp q3]] 300 (0,0)))
   (h1:G.mbox q1) (h2:G.I q2=some (.cells #[.pointer wp] 117 (0,0))) (h3:G.I q3=some (.cells #[u] 295 (0,0))) (hk:FRep G k u) (hw:WRep G ws wp):QRep G (.cont id k ws) b
inductive FRep (G:Gh):List Fr→Value→Prop where
 |nil (q:Nat) (h:G.mbox q):FRep G [] (.func (.func 230) #[] #[bp q])
 |ite (sh:List Nat) (t:Ex) (e:Option Ex) (env:Option Nat) (k:List Fr) (q1 q2 q3 q4:Nat) (xe xt u:Value) (pf:Option Addr) (h1:G.I q1=some (.cells #[xe] 241 (0,0))) (h2:G.I q2=some (.cells #[.pointer pf] 378 (0,0))) (h3:G.I q3=some (.cells #[u] 295 (0,0))) (h4:G.I q4=some (.cells #[xt] 241 (0,0)))
   (ht:CRep G sh t xt) (he:ORep G sh e xe) (hn:NRep G env pf) (hs:Sh G sh pf) (hk:FRep G k u):FRep G (.ite t e env::k) (.func (.func 399) #[] #[bp q1,bp q2,bp q3,bp q4])
 |set (sh:List Nat) (t:Tg) (env:Option Nat) (k:List Fr) (q1 q2 q3:Nat) (xs u:Value) (pf:Option Addr) (h1:G.I q1=some (.cells #[xs] 413 (0,0))) (h2:G.I q2=some (.cells #[.pointer pf] 378 (0,0))) (h3:G.I q3=some (.cells #[u] 295 (0,0)))
   (ht:TRep G sh t xs) (hn:NRep G env pf) (hs:Sh G sh pf) (hk:FRep G k u):FRep G (.set t env::k) (.func (.func 356) #[] #[bp q1,bp q2,bp q3])
 |body (sh:List Nat) (l:List Ex) (env:Option Nat) (k:List Fr) (q1 q2 q3:Nat) (xl u:Value) (pf:Option Addr) (h1:G.I q1=some (.cells #[xl] 241 (0,0))) (h2:G.I q2=some (.cells #[.pointer pf] 378 (0,0))) (h3:G.I q3=some (.cells #[u] 295 (0,0)))
   (hl:SRep G sh l xl) (hn:NRep G env pf) (hs:Sh G sh pf) (hk:FRep G k u):FRep G (.body l env::k) (.func (.func 385) #[] #[bp q1,bp q2,bp q3])
 |app (sh:List Nat) (vs:List Vl) (l:List Ex) (env:Option Nat) (k:List Fr) (q1 q2 q3 q4 q5 q6 q7:Nat) (sl x0 u:Value) (xs:List Value) (pf pd:Option Addr) (h1:G.mbox q1) (h2:G.I q2=some (.cells #[sl] 426 (0,0))) (h3:G.I q3=some (.cells #[.pointer pf] 378 (0,0)))
   (h4:G.I q4=some (.cells #[.pointer pd] 470 (0,0))) (h5:G.I q5=some (.cells #[.func (.func 372) #[] #[bp q6,bp q7]] 450 (0,0))) (h6:G.mbox q6) (h7:G.I q7=some (.cells #[u] 295 (0,0)))
   (hb:vs.length+xs.length≤90000) (hr:RowI G 241 sl (x0::xs)) (hx:XRep G sh l xs) (hc:HRep G vs.reverse pd) (hn:NRep G env pf) (hs:Sh G sh pf) (hk:FRep G k u):FRep G (.app vs l env::k) (.func (.func 396) #[] #[bp q1,bp q2,bp q3,bp q4,bp q5])
 |wind1 (a b c:Vl) (k:List Fr) (q1 q2 q3 q4 q5 ba bb bc:Nat) (u:Value) (h1:G.mbox q1) (h2:G.I q2=some (.cells #[bp ba] 281 (0,0))) (h3:G.I q3=some (.cells #[bp bc] 281 (0,0))) (h4:G.I q4=some (.cells #[bp bb] 281 (0,0))) (h5:G.I q5=some (.cells #[u] 295 (0,0)))
   (ha:QRep G a ba) (hb:QRep G b bb) (hc:QRep G c bc) (hk:FRep G k u):FRep G (.wind1 a b c::k) (.func (.func 315) #[] #[bp q1,bp q2,bp q3,bp q4,bp q5])
 |wind2 (c:Vl) (ws:List Wn) (k:List Fr) (q1 q2 q3 q4 bc:Nat) (u:Value) (wp:Option Addr) (h1:G.I q1=some (.cells #[.pointer wp] 117 (0,0))) (h2:G.mbox q2) (h3:G.I q3=some (.cells #[bp bc] 281 (0,0))) (h4:G.I q4=some (.cells #[u] 295 (0,0)))
   (hw:WRep G ws wp) (hc:QRep G c bc) (hk:FRep G k u):FRep G (.wind2 c ws::k) (.func (.func 316) #[] #[bp q1,bp q2,bp q3,bp q4])
 |wind3 (v:Vl) (k:List Fr) (q1 q2:Nat) (x u:Value) (h1:G.I q1=some (.cells #[u] 295 (0,0))) (h2:G.I q2=some (.cells #[x] 116 (0,0))) (hv:VRep G v x) (hk:FRep G k u):FRep G (.wind3 v::k) (.func (.func 317) #[] #[bp q1,bp q2])
 |back (ws:List Wn) (v:Vl) (k r:List Fr) (q1 q2 q3 q4 q5:Nat) (sl x u:Value) (wp:Option Addr) (h1:G.mbox q1) (h2:G.I q2=some (.cells #[.pointer wp] 117 (0,0))) (h3:G.I q3=some (.cells #[.func (.func 314) #[] #[bp q4,bp q5]] 297 (0,0)))
   (h4:G.I q4=some (.cells #[u] 295 (0,0))) (h5:G.I q5=some (.cells #[sl] 184 (0,0))) (hr:RowI G 116 sl [x]) (hv:VRep G v x) (hw:WRep G ws wp) (hk:FRep G k u):FRep G (.back ws v k::r) (.func (.func 351) #[] #[bp q1,bp q2,bp q3])
 |into (now ws:List Wn) (v:Vl) (k r:List Fr) (q1 q2 q3:Nat) (y:Value) (np:Option Addr) (h1:G.I q1=some (.cells #[.pointer np] 117 (0,0))) (h2:G.mbox q2) (h3:G.I q3=some (.cells #[y] 294 (0,0)))
   (hn:WRep G now np) (hy:FRep G (.back ws v k::r) y):FRep G (.into now ws v k::r) (.func (.func 353) #[] #[bp q1,bp q2,bp q3])
inductive HRep (G:Gh):List Vl→Option Addr→Prop where
 |nil:HRep G [] none
 |cons (v:Vl) (r:List Vl) (b:Nat) (x:Value) (pd:Option Addr) (hb:G.I b=some (.cells #[x,.pointer pd,.int .i64 ((r.length:Int)+1)] 485 (0,0))) (hv:VRep G v x) (hr:HRep G r pd):HRep G (v::r) (some ⟨b,0,none⟩)
inductive WRep (G:Gh):List Wn→Option Addr→Prop where
 |nil:WRep G [] none
 |cons (id:Nat) (a c:Vl) (r:List Wn) (b ba bc:Nat) (pd:Option Addr) (hj:G.J[id]? =some b) (hb:G.I b=some (.cells #[bp ba,bp bc,.pointer pd] 393 (0,0))) (ha:QRep G a ba) (hc:QRep G c bc) (hr:WRep G r pd):WRep G (.mk id a c::r) (some ⟨b,0,none⟩)
end
mutual
theorem VRep.mono {G H:Gh} (h:G.le H):∀{v x},VRep G v x→VRep H v x
 |_,_,.num n a b=>.num n a b
 |_,_,.bool b=>.bool b
 |_,_,.str t z=>.str t z
 |_,_,.sym t z=>.sym t z
 |_,_,.nil=>.nil
 |_,_,.none=>.none
 |_,_,.pair id b v u x y hj hb h1 h2=>.pair id b v u x y (h.J hj) (h.I hb) (VRep.mono h h1) (VRep.mono h h2)
 |_,_,.proc v b a=>.proc v b (QRep.mono h a)
 |_,_,.seal id b q v x hj hb hq a=>.seal id b q v x (h.J hj) (h.I hb) (h.I hq) (VRep.mono h a)
 |_,_,.sealD id b q1 q2 d e hj hb h1 h2 a=>.sealD id b q1 q2 d e (h.J hj) (h.I hb) (h.mbox h1) (h.I h2) (a.mono h)
 |_,_,.grant n a=>by have:=VRep.grant (G:=H) n (by rw [h.K];exact h.I a);rw [h.K]at this;exact this
theorem QRep.mono {G H:Gh} (h:G.le H):∀{v x},QRep G v x→QRep H v x
 |_,_,.lam sh id n r l env b q1 q2 q3 xl xb pf hj hb h1 h2 h3 hl hx he hs=>.lam sh id n r l env b q1 q2 q3 xl xb pf (h.J hj) (h.I hb) (h.I h1) (h.I h2) (h.I h3) (hl.mono h) (hx.mono h) (he.mono h) (hs.mono h)
 |_,_,.prim p x hb hp=>by have:=QRep.prim (G:=H) p x (by rw [h.P];exact h.I hb) (hp.mono h);rw [h.P]at this;exact this
 |_,_,.cont id k ws b q1 q2 q3 u wp hj hb h1 h2 h3 hk hw=>.cont id k ws b q1 q2 q3 u wp (h.J hj) (h.I hb) (h.mbox h1) (h.I h2) (h.I h3) (FRep.mono h hk) (WRep.mono h hw)
theorem FRep.mono {G H:Gh} (h:G.le H):∀{v x},FRep G v x→FRep H v x
 |_,_,.nil q a=>.nil q (h.mbox a)
 |_,_,.ite sh t e env k q1 q2 q3 q4 xe xt u pf h1 h2 h3 h4 ht he hn hs hk=>.ite sh t e env k q1 q2 q3 q4 xe xt u pf (h.I h1) (h.I h2) (h.I h3) (h.I h4) (ht.mono h) (he.mono h) (hn.mono h) (hs.mono h) (FRep.mono h hk)
 |_,_,.set sh t env k q1 q2 q3 xs u pf h1 h2 h3 ht hn hs hk=>.set sh t env k q1 q2 q3 xs u pf (h.I h1) (h.I h2) (h.I h3) (ht.mono h) (hn.mono h) (hs.mono h) (FRep.mono h hk)
 |_,_,.body sh l env k q1 q2 q3 xl u pf h1 h2 h3 hl hn hs hk=>.body sh l env k q1 q2 q3 xl u pf (h.I h1) (h.I h2) (h.I h3) (hl.mono h) (hn.mono h) (hs.mono h) (FRep.mono h hk)
 |_,_,.app sh vs l env k q1 q2 q3 q4 q5 q6 q7 sl x0 u xs pf pd h1 h2 h3 h4 h5 h6 h7 hb hr hx hc hn hs hk=>.app sh vs l env k q1 q2 q3 q4 q5 q6 q7 sl x0 u xs pf pd (h.mbox h1) (h.I h2) (h.I h3) (h.I h4) (h.I h5) (h.mbox h6) (h.I h7) hb (hr.mono h) (hx.mono h) (HRep.mono h hc) (hn.mono h) (hs.mono h) (FRep.mono h hk)
 |_,_,.wind1 a b c k q1 q2 q3 q4 q5 ba bb bc u h1 h2 h3 h4 h5 ha hb hc hk=>.wind1 a b c k q1 q2 q3 q4 q5 ba bb bc u (h.mbox h1) (h.I h2) (h.I h3) (h.I h4) (h.I h5) (QRep.mono h ha) (QRep.mono h hb) (QRep.mono h hc) (FRep.mono h hk)
 |_,_,.wind2 c ws k q1 q2 q3 q4 bc u wp h1 h2 h3 h4 hw hc hk=>.wind2 c ws k q1 q2 q3 q4 bc u wp (h.I h1) (h.mbox h2) (h.I h3) (h.I h4) (WRep.mono h hw) (QRep.mono h hc) (FRep.mono h hk)
 |_,_,.wind3 v k q1 q2 x u h1 h2 hv hk=>.wind3 v k q1 q2 x u (h.I h1) (h.I h2) (VRep.mono h hv) (FRep.mono h hk)
 |_,_,.back ws v k r q1 q2 q3 q4 q5 sl x u wp h1 h2 h3 h4 h5 hr hv hw hk=>.back ws v k r q1 q2 q3 q4 q5 sl x u wp (h.mbox h1) (h.I h2) (h.I h3) (h.I h4) (h.I h5) (hr.mono h) (VRep.mono h hv) (WRep.mono h hw) (FRep.mono h hk)
 |_,_,.into now ws v k r q1 q2 q3 y np h1 h2 h3 hn hy=>.into now ws v k r q1 q2 q3 y np (h.I h1) (h.mbox h2) (h.I h3) (WRep.mono h hn) (FRep.mono h hy)
theorem HRep.mono {G H:Gh} (h:G.le H):∀{v x},HRep G v x→HRep H v x
 |_,_,.nil=>.nil
 |_,_,.cons v r b x pd hb hv hr=>.cons v r b x pd (h.I hb) (VRep.mono h hv) (HRep.mono h hr)
theorem WRep.mono {G H:Gh} (h:G.le H):∀{v x},WRep G v x→WRep H v x
 |_,_,.nil=>.nil
 |_,_,.cons id a c r b ba bc pd hj hb ha hc hr=>.cons id a c r b ba bc pd (h.J hj) (h.I hb) (QRep.mono h ha) (QRep.mono h hc) (WRep.mono h hr)
end
end
section
open Sc
def Eg (k:Nat):Prop:=∀args w,(callFunc k args).run prog w=.ok (.enter k args) w
theorem qak {k:Nat} {fn:Func} (hf:prog.funcs[k]? =some fn) (hn:(fn.name== "runtime.NumGoroutine")=false) (hb:fn.body.isNone=false):Eg k:=by
 intro args w
 have h1:¬fn.name= "runtime.NumGoroutine" :=by simpa using hn
 have h2:¬fn.body=none:=by intro e;simp [e]at hb
 simp [callFunc,hf,h1,h2]
def rowOf:Value→List Nat
 | .slice (some a) (_+1) _=>[a.block]
 |_=>[]
def Gh.rows (G:Gh):List Nat:=G.E.flatMap fun p=>rowOf p.2
def Gh.mut (G:Gh):List Nat:=G.mb::G.sb::G.cb::G.mp::(G.B.map (·.2)++G.rows)
def Gh.add (G:Gh) (b:Nat) (o:Obj):Gh:={G with I:=fun c=>if c=b then some o else G.I c}
def ERow (G:Gh) (h:Array Obj) (sv:Value) (vs:List Vl):Prop:=
 (vs=[]∧∃a cap,sv=.slice a 0 cap)∨
 ∃g o cap arr,sv=.slice (some ⟨g,o,none⟩) vs.length cap∧vs≠[]∧h[g]? =some (.cells arr 116 (0,0))∧∀i v,vs[i]? =some v→∃x,arr[o+i]? =some x∧VRep G v x
def GVal (G:Gh) (o:Option Vl) (x:Value):Prop:=match o with
 |none=>x=.nilIface
 |some v=>VRep G v x
structure Inv (G:Gh) (S:Sub) (m:Mc) (w:World):Prop where
 imm:∀{b:Nat} {o:Obj},G.I b=some o→w.heap[b]? =some o
 nd:G.mut.Nodup
 mi:∀{b:Nat},b∈G.mut→G.I b=none
 ml:∀{b:Nat},b∈G.mut→b<w.heap.size
 st:Mt G.sb m.steps S.fuel 10 w
 ce:Mt G.cb m.cells S.quota 11 w
 sl:(m.steps:Int)≤S.fuel∧S.fuel≤20000
 cl:(m.cells:Int)≤S.quota∧S.quota≤5000
 ma:∃gv wp,w.heap[G.mb]? =some (.cells #[bp G.sb,bp G.cb,.map (some G.mp),gv,.pointer wp] 119 (0,0))∧WRep G m.wnd wp
 mp:∃es clock,w.heap[G.mp]? =some (.map es clock)∧es.toList.map (fun e=>(e.key,e.val))=G.B.map (fun p=>(Value.string ⟨p.1.toArray⟩,bp p.2))
 gl:∀{s:Bs} {b:Nat},(s,b)∈G.B→∃x,w.heap[b]? =some (.cells #[x] 318 (0,0))∧GVal G (lookup s m.glob) x
 gd:∀{s:Bs} {v:Vl},lookup s m.glob=some v→∃b,(s,b)∈G.B
 gk:(G.B.map (·.1)).Nodup
 en:∀{i:Nat} {vs:List Vl} {e:Option Nat},m.envs[i]? =some (vs,e)→∃fb sv pf,G.E[i]? =some (fb,sv)∧G.I fb=some (.cells #[sv,.pointer pf] 461 (0,0))∧NRep G e pf∧ERow G w.heap sv vs
 el:G.E.length=m.envs.length
 jl:G.J.length=m.ids
 jn:G.J.Nodup
 ji:∀{b:Nat},b∈G.J→∃o,G.I b=some o
 fo:w.os=G.W.os∧w.tape=G.W.tape∧w.output=G.W.output
 ff:∀{b:Nat},G.F b→w.heap[b]? =G.W.heap[b]?∧b<w.heap.size
 fm:∀{b:Nat},b∈G.mut→¬G.F b
 fi:∀{b:Nat},G.F b→G.I b=none
theorem Inv.lk {G:Gh} {S:Sub} {m:Mc} {w w':World} (h:Lk w w') (i:Inv G S m w):Inv G S m w':=by
 have e:=h.heap
 obtain⟨a1,a2,a3,a4,a5,a6,a7,a8,a9,a10,a11,a12,a13,a14,a15,a16,a17,a18,a19,a20,a21,a22⟩:=i
 unfold Mt at a5 a6
 rw [←e]at a1 a4 a5 a6 a9 a10 a11 a14 a20
 rw [←h.os,←h.tape,←h.output]at a19
 exact⟨a1,a2,a3,a4,a5,a6,a7,a8,a9,a10,a11,a12,a13,a14,a15,a16,a17,a18,a19,a20,a21,a22⟩
theorem Gh.le_add {G:Gh} {b:Nat} {o:Obj} (h:G.I b=none):G.le (G.add b o):=
 ⟨fun {c x} hc=>by
  show(if c=b then some o else G.I c)=some x
  by_cases e:c=b
  ·subst e;rw [h]at hc;cases hc
  ·rw [if_neg e];exact hc,id,id,id,rfl,rfl,rfl,rfl,rfl,rfl⟩
theorem Gh.add_at (G:Gh) (b:Nat) (o:Obj):(G.add b o).I b=some o:=if_pos rfl
theorem ERow.mono {G H:Gh} (h:G.le H) {a b:Array Obj} {sv:Value} {vs:List Vl} (hk:∀g o n cap,sv=.slice (some ⟨g,o,none⟩) (n+1) cap→b[g]? =a[g]?):ERow G a sv vs→ERow H b sv vs
 | .inl x=>.inl x
 | .inr ⟨g,o,cap,arr,h1,h2,h3,h4⟩=>.inr ⟨g,o,cap,arr,h1,h2,by
   obtain⟨v,r,rfl⟩:=List.exists_cons_of_ne_nil h2
   rw [hk g o r.length cap (by rw [h1];rfl)];exact h3,fun i v hv=>by obtain⟨x,e1,e2⟩:=h4 i v hv;exact⟨x,e1,e2.mono h⟩⟩
theorem GVal.mono {G H:Gh} (h:G.le H) {o:Option Vl} {x:Value} (hx:GVal G o x):GVal H o x:=by
 cases o with
 |none=>exact hx
 |some v=>exact VRep.mono h hx
theorem qc7 {G:Gh} {i fb g o n cap:Nat} (h:G.E[i]? =some (fb,.slice (some ⟨g,o,none⟩) (n+1) cap)):g∈G.rows:=
 List.mem_flatMap.2 ⟨_,List.mem_of_getElem? h,List.mem_singleton.2 rfl⟩
theorem Inv.grow {G H:Gh} {S:Sub} {m:Mc} {w w':World} (i:Inv G S m w) (hB:Below w.heap.size w w') (h:G.le H) (hJ:H.J=G.J) (hE:H.E=G.E) (hG:H.B=G.B) (hW:H.W=G.W) (hF:H.F=G.F)
  (hI:∀{b o},H.I b=some o→G.I b=some o∨(w.heap.size≤b∧w'.heap[b]? =some o)):Inv H S m w':=by
 have hm:H.mut=G.mut:=by simp only [Gh.mut,Gh.rows,h.mb,h.sb,h.cb,h.mp,hE,hG]
 have keep:∀{b:Nat},b∈G.mut→w'.heap[b]? =w.heap[b]?:=fun hb=>hB.block _ (i.ml hb)
 have m1:G.mb∈G.mut:=by simp [Gh.mut]
 have m2:G.sb∈G.mut:=by simp [Gh.mut]
 have m3:G.cb∈G.mut:=by simp [Gh.mut]
 have m4:G.mp∈G.mut:=by simp [Gh.mut]
 refine⟨?_,by rw [hm];exact i.nd,?_,?_,?_,?_,i.sl,i.cl,?_,?_,?_,?_,by rw [hG];exact i.gk,?_,by rw [hE];exact i.el,by rw [hJ];exact i.jl,by rw [hJ];exact i.jn,?_,?_,?_,?_,?_⟩
 ·intro b o hb
  rcases hI hb with hb|⟨_,hb⟩
  ·have:=i.imm hb
   rw [hB.block b (Array.getElem?_eq_some_iff.1 this).1];exact this
  ·exact hb
 ·intro b hb
  rw [hm]at hb
  rcases hc:H.I b with _|o
  ·rfl
  ·rcases hI hc with h1|⟨h1,_⟩
   ·rw [i.mi hb]at h1;cases h1
   ·have:=i.ml hb;omega
 ·intro b hb
  rw [hm]at hb
  exact Nat.lt_of_lt_of_le (i.ml hb) hB.size
 ·unfold Mt;rw [h.sb,keep m2];exact i.st
 ·unfold Mt;rw [h.cb,keep m3];exact i.ce
 ·obtain⟨gv,wp,a,b⟩:=i.ma
  exact⟨gv,wp,by rw [h.mb,h.sb,h.cb,h.mp,keep m1];exact a,b.mono h⟩
 ·obtain⟨es,c,a,b⟩:=i.mp
  exact⟨es,c,by rw [h.mp,keep m4];exact a,by rw [hG];exact b⟩
 ·intro s b hs
  rw [hG]at hs
  obtain⟨x,a,k⟩:=i.gl hs
  refine⟨x,?_,k.mono h⟩
  rw [keep (by simp only [Gh.mut,List.mem_cons,List.mem_append,List.mem_map];exact .inr (.inr (.inr (.inr (.inl ⟨_,hs,rfl⟩)))))];exact a
 ·intro s v hs
  rw [hG];exact i.gd hs
 ·intro j vs e hj
  obtain⟨fb,sv,pf,a,b,c,d⟩:=i.en hj
  refine⟨fb,sv,pf,by rw [hE];exact a,h.I b,c.mono h,d.mono h fun g o n cap hsv=>?_⟩
  subst hsv
  exact keep (by simp only [Gh.mut,List.mem_cons,List.mem_append];exact .inr (.inr (.inr (.inr (.inr (qc7 a))))))
 ·intro b hb
  rw [hJ]at hb
  obtain⟨o,ho⟩:=i.ji hb
  exact⟨o,h.I ho⟩
 ·rw [hW,hB.os,hB.tape,hB.output];exact i.fo
 ·intro b hb
  rw [hF]at hb
  obtain⟨h1,h2⟩:=i.ff hb
  rw [hW,hB.block b h2]
  exact⟨h1,Nat.lt_of_lt_of_le h2 hB.size⟩
 ·intro b hb
  rw [hm]at hb
  rw [hF];exact i.fm hb
 ·intro b hb
  rw [hF]at hb
  rcases hc:H.I b with _|o
  ·rfl
  ·rcases hI hc with h1|⟨h1,_⟩
   ·rw [i.fi hb]at h1;cases h1
   ·have:=(i.ff hb).2;omega
theorem Inv.fresh {G:Gh} {S:Sub} {m:Mc} {w:World} (i:Inv G S m w) {b:Nat} (hb:w.heap.size≤b):G.I b=none:=by
 rcases h:G.I b with _|o
 ·rfl
 ·have:=(Array.getElem?_eq_some_iff.1 (i.imm h)).1;omega
theorem Inv.alloc {G:Gh} {S:Sub} {m:Mc} {w:World} (i:Inv G S m w) (o:Obj):Inv (G.add w.heap.size o) S m (w.alloc o):=
 i.grow ((Below.refl _ _).alloc (Nat.le_refl _) _) (Gh.le_add (i.fresh (Nat.le_refl _))) rfl rfl rfl rfl rfl fun {b x} hb=>by
  by_cases e:b=w.heap.size
  ·subst e
   rw [Gh.add_at]at hb
   cases hb
   exact .inr ⟨Nat.le_refl _,heap_alloc_new _ _⟩
  ·left
   have:(if b=w.heap.size then some o else G.I b)=some x:=hb
   rw [if_neg e]at this;exact this
theorem Inv.below {G:Gh} {S:Sub} {m:Mc} {w w':World} (i:Inv G S m w) (hB:Below w.heap.size w w'):Inv G S m w':=i.grow hB (Gh.le.refl _) rfl rfl rfl rfl rfl .inl
theorem Inv.cell {G:Gh} {S:Sub} {m:Mc} {w:World} (i:Inv G S m w) {b:Nat} {c:Array Value} {t:Nat} (h:G.I b=some (.cells c t (0,0))) (o:Nat):w.cell? ⟨b,o,Option.none⟩=c[o]?:=by
 simp [World.cell?,i.imm h]
end
end Go.Proofs.YtldaocpojcfljaaGreatDoor
