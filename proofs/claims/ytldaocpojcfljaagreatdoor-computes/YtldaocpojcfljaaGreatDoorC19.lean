import Derived.Test.YtldaocpojcfljaaGreatDoorC18
import Derived.Deep.LoopGhost
set_option maxRecDepth 100000
set_option maxHeartbeats 4000000
namespace Go.Proofs.YtldaocpojcfljaaGreatDoor
open Tryz hiding parts
open Go.RowKit Go.Shelf
section
open Sc
def PostS (G:Gh) (S:Sub) (n:Nat) (c:Ct) (m:Mc) (e:Ending) (w:World):Prop:=∃j c' m',j<n∧go S n c m=go S j c' m'∧Out G S c' m' e w
theorem PostS.post {G:Gh} {S:Sub} {n:Nat} {c:Ct} {m:Mc} {e:Ending} {w:World} (p:PostS G S n c m e w):Post G S n c m e w:=by
 obtain⟨j,c',m',h1,h2,h3⟩:=p
 exact⟨j,c',m',Nat.le_of_lt h1,h2,h3⟩
theorem PostS.ends {G:Gh} {S:Sub} {n:Nat} {c:Ct} {m:Mc}:∀e w,PostS G S n c m e w→(∃v,e=.returned v)∨(∃ps,e=.panicked ps):=fun e w p=>Post.ends e w p.post
theorem PostS.cell {G:Gh} {S:Sub} {n:Nat} {c:Ct} {m:Mc} {v:Value} {w:World} (h:PostS G S n c m (.returned v) w) {b:Nat} {x:Value} {t:Nat} (hb:G.I b=some (.cells #[x] t (0,0))):w.cell? ⟨b,0,none⟩=some x:=h.post.cell hb
theorem Post.stepS {G H:Gh} {S:Sub} {n:Nat} {c c1:Ct} {m m1:Mc} {e:Ending} {w:World} (hn:Sc.next S c m=(c1,m1)) (hc:Ct.ended c=false) (hu:G.up H) (p:Post H S n c1 m1 e w):PostS G S (n+1) c m e w:=by
 obtain⟨j,c',m',h1,h2,h3⟩:=p
 exact⟨j,c',m',by omega,by rw [qan hn hc];exact h2,h3.up hu⟩
theorem qjz {S:Sub} {n:Nat} (ihe:SimE S n) (G:Gh) (m:Mc) (w:World) (id N:Nat) (l:List Ex) (env:Option Nat) (al:List Vl) (k:List Fr) (sh:List Nat) (q1 q2 q3 ku:Nat) (cu:Array Value) (xl xb:Value) (pf sa:Option Addr) (sn sc:Nat)
  (i:Inv G S m w) (h1:G.I q1=some (.cells #[xl] 241 (0,0))) (h2:G.I q2=some (.cells #[xb] 440 (0,0))) (h3:G.I q3=some (.cells #[.pointer pf] 378 (0,0))) (hl:SRep G (N::sh) l xl) (hx:BRep G N false xb) (hn:NRep G env pf) (hs:Sh G sh pf) (hk:FRep G k (.func (.func ku) #[] cu))
  (hr:LRow G w.heap (.slice sa sn sc) al) (he:Ct.ended (go S (n+1) (.ap (.lam id N false l env) al k) m).1=true):
  Calls prog 383 (#[.slice sa sn sc,.func (.func ku) #[] cu]++#[bp q1,bp q2,bp q3]) w (PostS G S (n+1) (.ap (.lam id N false l env) al k) m):=by
 obtain⟨k1,c1,rfl,eg1⟩:=hl.isF
 have hsn:sn=al.length:=by
  rcases hr with⟨rfl,a,cap,h⟩|⟨g,o,cap,arr,h,_⟩
  ·cases h;rfl
  ·cases h;rfl
 subst hsn
 cases hx with
 |num N p1 p2 hp1 hp2=>
  have hcl:(m.cells:Int)≤S.quota:=i.cl.1
  refine qkn q1 q2 q3 k1 363 ku c1 #[bp p1,bp p2] cu sa pf al.length sc w _ eg1 eg363 PostS.ends (fun v w' p=>⟨p.cell h1,p.cell h2,p.cell h3⟩) (by rw [i.cell h1];rfl) (by rw [i.cell h2];rfl) (by rw [i.cell h3];rfl) ?_
  intro w0 hw0
  have i0:=Inv.lk hw0 i
  have d1:w0.cell? ⟨p1,0,none⟩=some (.int .i64 (N:Int)):=by rw [i0.cell hp1];rfl
  have d2:w0.cell? ⟨p2,0,none⟩=some (.pointer (some ⟨G.mb,0,none⟩)):=by rw [i0.cell hp2];rfl
  by_cases hN:al.length=N
  ·subst hN
   by_cases hce:(m.cells:Int)+al.length≤S.quota
   ·have hnx:Sc.next S (.ap (.lam id al.length false l env) al k) m=(bodyOf l (some m.envs.length) k,{m with cells:=m.cells+al.length,envs:=m.envs++[(al,env)]}):=by
     simp only [Sc.next,carry,ne_eq,not_true_eq_false,if_false,Bool.false_eq_true]
     rw [cellsN_ok _ hce]
    rw [qan hnx rfl]at he
    refine Calls.mono (qtb p1 p2 G.mb G.cb al.length sc sa m.cells S.quota w0 d1 d2 i0.mb1 i0.ce (by omega) hce (by have:=i.cl.2;omega)) ?_
    rintro e w1 ⟨rfl,hw1⟩
    left
    have ic:=i0.cells (m.cells+al.length) (by push_cast;exact hce)
    have ic:Inv G S {m with cells:=m.cells+al.length} w1:=Inv.lk hw1 (by simpa using ic)
    refine⟨sa,al.length,sc,rfl,⟨by rw [ic.cell h1];rfl,by rw [ic.cell h2];rfl,by rw [ic.cell h3];rfl⟩,?_⟩
    intro w2 hw2
    have ia:=ic.alloc (.cells #[.slice sa al.length sc,.pointer pf] 461)
    have xa:=ic.x1 (.cells #[.slice sa al.length sc,.pointer pf] 461)
    have ia':=Inv.lk hw2 ia
    have hrow:LRow (G.add w1.heap.size (.cells #[.slice sa al.length sc,.pointer pf] 461)) w2.heap (.slice sa al.length sc) al:=by
     rcases hr with⟨r1,r2⟩|⟨g,o,cap,arr,r1,r2,r3,r4,r5,r6,r7,r8,r9⟩
     ·exact .inl ⟨r1,r2⟩
     ·have hgl:g<w.heap.size:=(Array.getElem?_eq_some_iff.1 r5).1
      have hz1:w1.heap.size=w.heap.size:=by rw [hw1.heap,qaf,hw0.heap]
      have hgc:g≠G.cb:=fun e=>r6 (e▸i.m3)
      refine .inr ⟨g,o,cap,arr,r1,r2,r3,r4,?_,by rw [xa.mut];exact r6,by rw [xa.I (by omega)];exact r7,by rw [xa.F];exact r8,fun q u hu=>by obtain⟨z,z1,z2⟩:=r9 q u hu;exact⟨z,z1,z2.mono xa.le⟩⟩
      rw [hw2.heap,Below.heap_alloc _ _ _ (by omega),hw1.heap,qaa (a:=⟨G.cb,0,none⟩) g hgc,hw0.heap];exact r5
    have ie:=ia'.pushEnv (Gh.add_at _ _ _) (hn.mono xa.le) hrow
    have L:=xa.le.trans (Gh.le_env (G.add w1.heap.size (.cells #[.slice sa al.length sc,.pointer pf] 461)) w1.heap.size (.slice sa al.length sc))
    have hnr:NRep ((G.add w1.heap.size (.cells #[.slice sa al.length sc,.pointer pf] 461)).env w1.heap.size (.slice sa al.length sc)) (some m.envs.length) (some ⟨w1.heap.size,0,none⟩):=
     .some _ _ (.slice sa al.length sc) (by show(G.E++[_])[m.envs.length]? =_;rw [show m.envs.length=G.E.length from i.el.symm];simp)
    exact Calls.mono (qd2 ihe _ _ w2 (al.length::sh) l (some m.envs.length) k k1 ku c1 cu _ ie (hl.mono L) hnr (.cons al.length sh _ sa sc pf (Gh.add_at _ _ _) (hs.mono L)) (hk.mono L) he) fun e w p=>Post.stepS hnx rfl ⟨L,rfl,rfl⟩ p
   ·have hnx:Sc.next S (.ap (.lam id al.length false l env) al k) m=(.stop 11,{m with cells:=S.quota.toNat}):=by
     simp only [Sc.next,carry,ne_eq,not_true_eq_false,if_false,Bool.false_eq_true]
     rw [qb7 _ hcl (by omega)]
    refine Calls.mono (qp7 p1 p2 G.mb G.cb al.length sc sa m.cells S.quota w0 d1 d2 i0.mb1 i0.ce (by omega) (by omega) hcl (by have:=i.cl.2;omega)) ?_
    rintro e w1 ⟨rfl,hb⟩
    have hq:((S.quota.toNat:Nat):Int)=S.quota:=Int.toNat_of_nonneg (by have:(0:Int)≤(m.cells:Int):=Int.natCast_nonneg _;omega)
    have i1:=i0.cells S.quota.toNat (by omega)
    rw [hq]at i1
    exact .inr ⟨⟨_,rfl⟩,Post.stepS hnx rfl (Gh.up.refl G) (Post.now (.stop 11 _ _ (i1.cntB (by rw [qaf];exact Nat.le_refl _) hb)))⟩
  ·have hnx:Sc.next S (.ap (.lam id N false l env) al k) m=(.stop 7,m):=by
    simp [Sc.next,carry,hN]
   refine Calls.mono (qp8 p1 p2 N al.length sc sa w0 d1 hN) ?_
   rintro e w1 ⟨rfl,o,rfl⟩
   exact .inr ⟨⟨_,rfl⟩,Post.stepS hnx rfl (Gh.up.refl G) (Post.now (.stop 7 _ _ (i0.cntB (Nat.le_refl _) ((Below.refl _ _).alloc (Nat.le_refl _) _))))⟩
theorem qjy {S:Sub} {n:Nat} (ihe:SimE S n) (G:Gh) (m:Mc) (w:World) (id N:Nat) (l:List Ex) (env:Option Nat) (al:List Vl) (k:List Fr) (sh:List Nat) (q1 q2 q3 ku:Nat) (cu:Array Value) (xl xb:Value) (pf sa:Option Addr) (sn sc:Nat)
  (i:Inv G S m w) (h1:G.I q1=some (.cells #[xl] 241 (0,0))) (h2:G.I q2=some (.cells #[xb] 440 (0,0))) (h3:G.I q3=some (.cells #[.pointer pf] 378 (0,0))) (hl:SRep G (N::sh) l xl) (hx:BRep G N true xb) (hn:NRep G env pf) (hs:Sh G sh pf) (hk:FRep G k (.func (.func ku) #[] cu))
  (hr:LRow G w.heap (.slice sa sn sc) al) (he:Ct.ended (go S (n+1) (.ap (.lam id N true l env) al k) m).1=true):
  Calls prog 383 (#[.slice sa sn sc,.func (.func ku) #[] cu]++#[bp q1,bp q2,bp q3]) w (PostS G S (n+1) (.ap (.lam id N true l env) al k) m):=by
 obtain⟨k1,c1,rfl,eg1⟩:=hl.isF
 obtain⟨xs,hv,hxl,hal,hrow,hgm,hx6⟩:=hr.vals
 cases hx with
 |rest q hq=>
  have hcl:(m.cells:Int)≤S.quota:=i.cl.1
  refine qkn q1 q2 q3 k1 358 ku c1 #[bp q] cu sa pf sn sc w _ eg1 eg358 PostS.ends (fun v w' p=>⟨p.cell h1,p.cell h2,p.cell h3⟩) (by rw [i.cell h1];rfl) (by rw [i.cell h2];rfl) (by rw [i.cell h3];rfl) ?_
  intro w0 hw0
  have i0:=Inv.lk hw0 i
  by_cases hce:(m.cells:Int)+(1+(al.length:Int))≤S.quota
  ·have hnx:Sc.next S (.ap (.lam id 1 true l env) al k) m=(bodyOf l (some (mkList {m with cells:=m.cells+(1+al.length)} al .nil).2.envs.length) k,{(mkList {m with cells:=m.cells+(1+al.length)} al .nil).2 with envs:=(mkList {m with cells:=m.cells+(1+al.length)} al .nil).2.envs++[([(mkList {m with cells:=m.cells+(1+al.length)} al .nil).1],env)]}):=by
    simp only [Sc.next,carry,if_true]
    rw [cellsN_ok (1+al.length) (by push_cast;exact hce)]
   rw [qan hnx rfl]at he
   have hb:=qta G S m w0 q sn sc sa al xs i0 hq hv hxl (by
    rcases hrow with h|⟨g,o,e1,e2⟩
    ·exact .inl h
    ·exact .inr ⟨g,o,e1,fun j hj=>by simp only [World.cell?,hw0.heap];exact e2 j hj⟩) (fun g o e1 e2 e3=>hgm g o e1 e2 (e3▸i.m3)) (by omega) (by rw [hal];exact hce)
   refine Calls.mono hb ?_
   rintro e w1 ⟨H,B,x,rfl,hH,hi,hvx,hB,hBs,hBi⟩
   rw [hal]at hi hvx
   left
   have hz0:w0.heap.size=w.heap.size:=by rw [hw0.heap]
   refine⟨some ⟨B,0,none⟩,1,1,rfl,⟨by rw [hi.cell (hH.le.I h1)];rfl,by rw [hi.cell (hH.le.I h2)];rfl,by rw [hi.cell (hH.le.I h3)];rfl⟩,?_⟩
   intro w2 hw2
   have ia:=hi.alloc (.cells #[.slice (some ⟨B,0,none⟩) 1 1,.pointer pf] 461)
   have xa:=hi.x1 (.cells #[.slice (some ⟨B,0,none⟩) 1 1,.pointer pf] 461)
   have ia':=Inv.lk hw2 ia
   have hBl:B<w1.heap.size:=(Array.getElem?_eq_some_iff.1 hB).1
   have hrow2:LRow (H.add w1.heap.size (.cells #[.slice (some ⟨B,0,none⟩) 1 1,.pointer pf] 461)) w2.heap (.slice (some ⟨B,0,none⟩) 1 1) [(mkList {m with cells:=m.cells+(1+al.length)} al .nil).1]:=by
    refine .inr ⟨B,0,1,#[x],rfl,by simp,by simp,by simp,?_,?_,by rw [xa.I hBl];exact hBi,?_,?_⟩
    ·rw [hw2.heap,Below.heap_alloc _ _ _ hBl];exact hB
    ·rw [xa.mut,hH.mut];intro hm;have:=i.ml hm;omega
    ·rw [xa.F,hH.F];intro hf;have:=(i.ff hf).2;omega
    ·intro j u hu
     cases j with
     |zero=>simp at hu;subst hu;exact⟨x,rfl,hvx.mono xa.le⟩
     |succ j=>simp at hu
   have Lx:=hH.le.trans xa.le
   have ie:=ia'.pushEnv (Gh.add_at _ _ _) (hn.mono Lx) hrow2
   have L:=Lx.trans (Gh.le_env (H.add w1.heap.size (.cells #[.slice (some ⟨B,0,none⟩) 1 1,.pointer pf] 461)) w1.heap.size (.slice (some ⟨B,0,none⟩) 1 1))
   have hnr:NRep ((H.add w1.heap.size (.cells #[.slice (some ⟨B,0,none⟩) 1 1,.pointer pf] 461)).env w1.heap.size (.slice (some ⟨B,0,none⟩) 1 1)) (some (mkList {m with cells:=m.cells+(1+al.length)} al .nil).2.envs.length) (some ⟨w1.heap.size,0,none⟩):=
    .some _ _ (.slice (some ⟨B,0,none⟩) 1 1) (by show(H.E++[_])[_]? =_;rw [show(mkList {m with cells:=m.cells+(1+al.length)} al .nil).2.envs.length=H.E.length from hi.el.symm];simp)
   exact Calls.mono (qd2 ihe _ _ w2 (1::sh) l _ k k1 ku c1 cu _ ie (hl.mono L) hnr (.cons 1 sh _ (some ⟨B,0,none⟩) 1 pf (Gh.add_at _ _ _) (hs.mono L)) (hk.mono L) he) fun e w p=>Post.stepS hnx rfl ⟨L,by show H.W=G.W;exact hH.W,by show H.F=G.F;exact hH.F⟩ p
  ·have hnx:Sc.next S (.ap (.lam id 1 true l env) al k) m=(.stop 11,{m with cells:=S.quota.toNat}):=by
    simp only [Sc.next,carry,if_true]
    rw [qb7 (1+al.length) hcl (by push_cast;omega)]
   refine Calls.mono (qp6 q G.mb G.cb sn sc sa m.cells S.quota w0 (by rw [i0.cell hq];rfl) i0.mb1 i0.ce (by omega) (by rw [hal];omega) hcl (by have:=i.cl.2;omega) (by omega)) ?_
   rintro e w1 ⟨rfl,hb⟩
   have hq:((S.quota.toNat:Nat):Int)=S.quota:=Int.toNat_of_nonneg (by have:(0:Int)≤(m.cells:Int):=Int.natCast_nonneg _;omega)
   have i1:=i0.cells S.quota.toNat (by omega)
   rw [hq]at i1
   exact .inr ⟨⟨_,rfl⟩,Post.stepS hnx rfl (Gh.up.refl G) (Post.now (.stop 11 _ _ (i1.cntB (by rw [qaf];exact Nat.le_refl _) hb)))⟩
theorem qbg {S:Sub} {n:Nat} (ihv:SimV S n) (p:Pm) (f:Nat) (ef:Eg f) (hk0:p.kinds=[.num,.num]) (hg:p.grant=0) (hil:p.isList=false) (hc:∀m k l,carry S (.prim p) l k m=(if !p.isList&&l.length !=p.kinds.length then(.stop 7,m)else if p.grant !=0&&!granted p l then(.stop 9,m)else if !p.isList&&(List.zip p.kinds l).any (fun q=>!q.1.ok q.2)then(.stop 6,m)else match value S m p l with
    |(.error e,m)=>(.stop e,m)
    |(.ok v,m)=>(.ret v k,m)))
  (G:Gh) (m:Mc) (w:World) (al:List Vl) (k:List Fr) (q ku:Nat) (cu:Array Value) (sa:Option Addr) (sn sc:Nat)
  (hval:∀a b,-9223372036854775808≤a→a≤9223372036854775807→-9223372036854775808≤b→b≤9223372036854775807→(∃v x,value S m p [.num a,.num b]=(.ok v,m)∧VRep G v x∧Num2 f a b (some x))∨(value S m p [.num a,.num b]=(.error 8,m)∧Num2 f a b none))
  (i:Inv G S m w) (hq:G.I q=some (.cells #[.func (.func f) #[] #[]] 283 (0,0))) (hk:FRep G k (.func (.func ku) #[] cu)) (hr:LRow G w.heap (.slice sa sn sc) al) (he:Ct.ended (go S (n+1) (.ap (.prim p) al k) m).1=true):
  Calls prog 257 (#[.slice sa sn sc,.func (.func ku) #[] cu]++#[bp q]) w (PostS G S (n+1) (.ap (.prim p) al k) m):=by
 obtain⟨xs,hv,hxl,hal,hrow,hgm,hx6⟩:=hr.vals
 have hb0:Below w.heap.size w w:=Below.refl _ _
 by_cases hlen:sn=2
 ·subst hlen
  obtain⟨v0,v1,rfl⟩:∃v0 v1,al=[v0,v1]:=by
   match al,hal with
   | [a,b],_=>exact⟨a,b,rfl⟩
  obtain⟨x0,x1,rfl⟩:∃x0 x1,xs=[x0,x1]:=by
   match xs,hxl with
   | [a,b],_=>exact⟨a,b,rfl⟩
  have hv0:=hv.2 0 v0 x0 rfl rfl
  have hv1:=hv.2 1 v1 x1 rfl rfl
  rcases hrow with h|⟨g,o,rfl,hcell⟩
  ·simp at h
  have c0:w.cell? ⟨g,o,none⟩=some x0:=hcell 0 (by simp)
  have c1:w.cell? ⟨g,o+1,none⟩=some x1:=hcell 1 (by simp)
  obtain⟨t0,y0,rfl⟩:=hv0.form
  obtain⟨t1,y1,rfl⟩:=hv1.form
  have stop6:(Kd.ok .num v0=false∨Kd.ok .num v1=false)→(t0≠180∨((∃a,t0=180∧y0=.int .i64 a)∧t1≠180))→Calls prog 257 (#[.slice (some ⟨g,o,none⟩) 2 sc,.func (.func ku) #[] cu]++#[bp q]) w (PostS G S (n+1) (.ap (.prim p) [v0,v1] k) m):=fun hko ht=>by
   have hnx:Sc.next S (.ap (.prim p) [v0,v1] k) m=(.stop 6,m):=by
    show carry S (.prim p) [v0,v1] k m=_
    rw [hc]
    rcases hko with hko|hko <;> simp [hk0,hg,hil,hko]
   refine Calls.mono (qld g o sc q t0 t1 y0 y1 ku cu w c0 c1 ht) ?_
   rintro e w' ⟨rfl,o',rfl⟩
   exact Post.stepS hnx rfl (Gh.up.refl G) (Post.now (.stop 6 _ _ (i.cntB (Nat.le_refl _) ((Below.refl _ _).alloc (Nat.le_refl _) _))))
  rcases hv0.asNum with⟨rfl,a,rfl,rfl,a0,a1⟩|⟨ht0,hk0'⟩
  ·rcases hv1.asNum with⟨rfl,b,rfl,rfl,b0,b1⟩|⟨ht1,hk1'⟩
   ·obtain⟨kk,ck,hku,egu⟩:=hk.isF
    cases hku
    refine qng g o sc q f ku a b #[] cu w _ ef egu PostS.ends c0 c1 (by rw [i.cell hq];rfl) ?_
    intro w' hw
    rcases hval a b a0 a1 b0 b1 with⟨v,x,e1,e2,e3⟩|⟨e1,e3⟩
    ·have hnx:Sc.next S (.ap (.prim p) [.num a,.num b] k) m=(.ret v k,m):=by
      show carry S (.prim p) [.num a,.num b] k m=_
      rw [hc];simp [hk0,hg,hil,e1,Kd.ok]
     rw [qan hnx rfl]at he
     refine Calls.mono (e3 w') ?_
     rintro e w1 ⟨rfl,rfl⟩
     obtain⟨t,y,rfl⟩:=e2.form
     exact .inl ⟨t,y,rfl,fun w2 hw2=>Calls.mono (ihv G m w2 v k _ ku cu (Inv.lk hw2 (Inv.lk hw i)) e2 hk he) fun e w p=>Post.stepS hnx rfl (Gh.up.refl G) p⟩
    ·have hnx:Sc.next S (.ap (.prim p) [.num a,.num b] k) m=(.stop 8,m):=by
      show carry S (.prim p) [.num a,.num b] k m=_
      rw [hc];simp [hk0,hg,hil,e1,Kd.ok]
     refine Calls.mono (e3 w') ?_
     rintro e w1 ⟨rfl,o',rfl⟩
     exact .inr ⟨⟨_,rfl⟩,Post.stepS hnx rfl (Gh.up.refl G) (Post.now (.stop 8 _ _ ((Inv.lk hw i).cntB (Nat.le_refl _) ((Below.refl _ _).alloc (Nat.le_refl _) _))))⟩
   ·exact stop6 (.inr hk1') (.inr ⟨⟨a,rfl,rfl⟩,ht1⟩)
  ·exact stop6 (.inl hk0') (.inl ht0)
 ·have hnx:Sc.next S (.ap (.prim p) al k) m=(.stop 7,m):=by
   show carry S (.prim p) al k m=_
   rw [hc]
   have:al.length≠2:=by omega
   simp [hk0,hil,this]
  refine Calls.mono (qle sa sn sc q ku cu w (by omega) hlen) ?_
  rintro e w' ⟨rfl,o',rfl⟩
  exact Post.stepS hnx rfl (Gh.up.refl G) (Post.now (.stop 7 _ _ (i.cntB (Nat.le_refl _) ((Below.refl _ _).alloc (Nat.le_refl _) _))))
theorem qj0 {S:Sub} {n:Nat} (ihv:SimV S n) (G:Gh) (m:Mc) (w:World) (id:Nat) (kc:List Fr) (ws:List Wn) (al:List Vl) (k:List Fr) (q1 q2 q3:Nat) (uu u:Value) (wp sa:Option Addr) (sn sc:Nat)
  (i:Inv G S m w) (h1:G.mbox q1) (h2:G.I q2=some (.cells #[.pointer wp] 117 (0,0))) (h3:G.I q3=some (.cells #[u] 295 (0,0))) (hk:FRep G kc u) (hw:WRep G ws wp) (hr:LRow G w.heap (.slice sa sn sc) al) (he:Ct.ended (go S (n+1) (.ap (.cont id kc ws) al k) m).1=true):
  Calls prog 312 (#[.slice sa sn sc,uu]++#[bp q1,bp q2,bp q3]) w (PostS G S (n+1) (.ap (.cont id kc ws) al k) m):=by
 have hsn:sn=al.length:=by
  rcases hr with⟨rfl,a,cap,h⟩|⟨g,o,cap,arr,h,_⟩
  ·cases h;rfl
  ·cases h;rfl
 by_cases h1n:sn=1
 ·subst h1n
  obtain⟨v,rfl⟩:∃v,al=[v]:=by
   match al,hsn with
   | [a],_=>exact⟨a,rfl⟩
  rcases hr with⟨h,_⟩|⟨g,o,cap,arr,e,hne,hc1,hc2,hg,hgm,hgi,hgf,hx⟩
  ·simp at h
  cases e
  obtain⟨x,hx1,hx2⟩:=hx 0 v rfl
  have hnx:Sc.next S (.ap (.cont id kc ws) [v] k) m=rewind S ws v kc m:=rfl
  rw [qan hnx rfl]at he
  have i1:=i.fix ⟨hgm,hgf⟩ hgi hg
  have L1:G.le (G.add g (.cells arr 116)):=Gh.le_add hgi
  have i2:=i1.alloc (.cells #[.slice (some ⟨g,o,none⟩) 1 sc] 184)
  have x2:=i1.x1 (.cells #[.slice (some ⟨g,o,none⟩) 1 sc] 184)
  have L:=L1.trans x2.le
  refine qs5 q1 q2 q3 G.mb sc (some ⟨g,o,none⟩) wp uu w _ PostS.ends (by rw [i.cell h1];rfl) (by rw [i.cell h2];rfl) ?_
  intro w' hw'
  have hap:=qdi ihv _ m w' ws v kc wp q3 w.heap.size (.slice (some ⟨g,o,none⟩) 1 sc) x u (Inv.lk hw' i2) (hw.mono L) (L.I h3) (by exact Gh.add_at _ _ _) ⟨g,o,sc,arr,rfl,x2.le.I (Gh.add_at _ _ _),by simpa using hc1,hc2,fun j z hz=>by
    cases j with
    |zero=>simp at hz;subst hz;exact hx1
    |succ j=>simp at hz⟩ (hx2.mono L) (hk.mono L) he
  exact Calls.mono hap fun e w p=>Post.stepS hnx rfl ⟨L,rfl,rfl⟩ p
 ·have hnx:Sc.next S (.ap (.cont id kc ws) al k) m=(.stop 7,m):=by
   show carry S (.cont id kc ws) al k m=_
   unfold carry
   match al,hsn with
   | [],_=>rfl
   | [a],h=>exact absurd h h1n
   |_::_::_,_=>rfl
  refine Calls.mono (qpz q1 q2 q3 sn sc sa uu w h1n) ?_
  rintro e w' ⟨rfl,hb⟩
  exact Post.stepS hnx rfl (Gh.up.refl G) (Post.now (.stop 7 _ _ (i.cntB (Nat.le_refl _) hb)))
end
section
open Sc
theorem eg257:Eg 257:=qak func257 (by kernel_rfl) (by kernel_rfl)
theorem eg268:Eg 268:=qak func268 (by kernel_rfl) (by kernel_rfl)
theorem eg270:Eg 270:=qak func270 (by kernel_rfl) (by kernel_rfl)
theorem eg271:Eg 271:=qak func271 (by kernel_rfl) (by kernel_rfl)
theorem eg204:Eg 204:=qak func204 (by kernel_rfl) (by kernel_rfl)
theorem eg274:Eg 274:=qak func274 (by kernel_rfl) (by kernel_rfl)
theorem eg276:Eg 276:=qak func276 (by kernel_rfl) (by kernel_rfl)
theorem eg277:Eg 277:=qak func277 (by kernel_rfl) (by kernel_rfl)
theorem eg278:Eg 278:=qak func278 (by kernel_rfl) (by kernel_rfl)
theorem eg280:Eg 280:=qak func280 (by kernel_rfl) (by kernel_rfl)
theorem eg284:Eg 284:=qak func284 (by kernel_rfl) (by kernel_rfl)
theorem eg286:Eg 286:=qak func286 (by kernel_rfl) (by kernel_rfl)
theorem eg383:Eg 383:=qak func383 (by kernel_rfl) (by kernel_rfl)
theorem eg312:Eg 312:=qak func312 (by kernel_rfl) (by kernel_rfl)
theorem PRep.isF {G:Gh} {p:Pm} {x:Value} (h:PRep G p x):IsF x:=by
 have key:p.form≠3→Eg p.wrapF:=fun hf=>by
  have h:p.wrapF=257∨p.wrapF=268∨p.wrapF=270∨p.wrapF=271∨p.wrapF=204∨p.wrapF=274∨p.wrapF=276∨p.wrapF=277∨p.wrapF=278∨p.wrapF=280∨p.wrapF=284∨p.wrapF=286:=by
   cases p <;> first|exact absurd rfl hf|simp [Sc.Pm.wrapF]
  rcases h with h|h|h|h|h|h|h|h|h|h|h|h
  ·rw [h];exact eg257
  ·rw [h];exact eg268
  ·rw [h];exact eg270
  ·rw [h];exact eg271
  ·rw [h];exact eg204
  ·rw [h];exact eg274
  ·rw [h];exact eg276
  ·rw [h];exact eg277
  ·rw [h];exact eg278
  ·rw [h];exact eg280
  ·rw [h];exact eg284
  ·rw [h];exact eg286
 cases h with
 |bare q hf h=>exact⟨_,_,rfl,key (by rw [hf];decide)⟩
 |mach q r hf h hr=>exact⟨_,_,rfl,key (by rw [hf];decide)⟩
 |self q hf h=>exact⟨_,_,rfl,key (by rw [hf];decide)⟩
def SimP (S:Sub) (n:Nat):Prop:=∀(G:Gh) (m:Mc) (w:World) (p:Pm) (al:List Vl) (k:List Fr) (kx ku:Nat) (cx cu:Array Value) (sa:Option Addr) (sn sc:Nat),TabW G→Inv G S m w→PRep G p (.func (.func kx) #[] cx)→FRep G k (.func (.func ku) #[] cu)→LRow G w.heap (.slice sa sn sc) al→
 Ct.ended (go S (n+1) (.ap (.prim p) al k) m).1=true→Calls prog kx (#[.slice sa sn sc,.func (.func ku) #[] cu]++cx) w (PostS G S (n+1) (.ap (.prim p) al k) m)
theorem sim_ap {S:Sub} {n:Nat} (hp:SimP S n) (G:Gh) (tw:TabW G) (m:Mc) (w:World) (f:Vl) (al:List Vl) (k:List Fr) (x:Value) (i:Inv G S m w) (hx:NxRep G w.heap f al k x) (he:Ct.ended (go S (n+1) (.ap f al k) m).1=true):
  ∃cx,x=.func (.func 311) #[] cx∧Calls prog 311 (#[]++cx) w (PostS G S (n+1) (.ap f al k) m):=by
 cases hx with
 |mk q1 q2 q3 b sv u h1 h2 h3 hf hl hk=>
  refine⟨_,rfl,?_⟩
  obtain⟨ku,cu,rfl,egu⟩:=hk.isF
  obtain⟨sa,sn,sc,rfl⟩:∃sa sn sc,sv=.slice sa sn sc:=by
   rcases hl with⟨_,a,cap,e⟩|⟨g,o,cap,arr,e,_⟩
   ·exact⟨_,_,_,e⟩
   ·exact⟨_,_,_,e⟩
  have c1:w.cell? ⟨q1,0,none⟩=some (.pointer (some ⟨b,0,none⟩)):=by rw [i.cell h1];rfl
  have c2:w.cell? ⟨q2,0,none⟩=some (.slice sa sn sc):=by rw [i.cell h2];rfl
  have c3:w.cell? ⟨q3,0,none⟩=some (.func (.func ku) #[] cu):=by rw [i.cell h3];rfl
  have lr:∀w',Lk w w'→LRow G w'.heap (.slice sa sn sc) al:=fun w' hw=>by rw [hw.heap];exact hl
  show Calls prog 311 #[bp q1,bp q2,bp q3] w _
  cases hf with
  |lam sh id N r l env b p1 p2 p3 xl xb pf hj hb g1 g2 g3 hll hxb hn hs=>
   refine qqg q1 q2 q3 b 383 #[bp p1,bp p2,bp p3] sa sn sc ku cu w _ eg383 PostS.ends c1 (by rw [i.cell hb];rfl) c2 c3 ?_
   intro w' hw
   cases r with
   |false=>exact qjz (qav S n).1 G m w' id N l env al k sh p1 p2 p3 ku cu xl xb pf sa sn sc (Inv.lk hw i) g1 g2 g3 hll hxb hn hs hk (lr w' hw) he
   |true=>exact qjy (qav S n).1 G m w' id N l env al k sh p1 p2 p3 ku cu xl xb pf sa sn sc (Inv.lk hw i) g1 g2 g3 hll hxb hn hs hk (lr w' hw) he
  |prim p x hb hpr=>
   obtain⟨kx,cx,rfl,egx⟩:=hpr.isF
   refine qqg q1 q2 q3 _ kx cx sa sn sc ku cu w _ egx PostS.ends c1 (by rw [i.cell hb];rfl) c2 c3 ?_
   intro w' hw
   exact hp G m w' p al k kx ku cx cu sa sn sc tw (Inv.lk hw i) hpr hk (lr w' hw) he
  |cont id kc ws b p1 p2 p3 u' wp hj hb g1 g2 g3 hkc hwp=>
   refine qqg q1 q2 q3 b 312 #[bp p1,bp p2,bp p3] sa sn sc ku cu w _ eg312 PostS.ends c1 (by rw [i.cell hb];rfl) c2 c3 ?_
   intro w' hw
   exact qj0 (qav S n).2 G m w' id kc ws al k p1 p2 p3 _ u' wp sa sn sc (Inv.lk hw i) g1 g2 g3 hkc hwp (lr w' hw) he
end
section
open Sc
inductive RunOut (G:Gh) (S:Sub):Ct→Mc→Ending→World→Prop where
 |done (v:Vl) (m:Mc) (w:World) (H:Gh) (x:Value) (hu:G.up H) (hi:Inv H S m w) (hx:VRep H v x):RunOut G S (.done v) m (.returned x) w
 |stop (vd:Nat) (m:Mc) (w:World) (hc:Cnt G S m w):RunOut G S (.stop vd) m (.panicked (stopP (stopW vd m))) w
def RelA (G:Gh) (S:Sub) (r:Ct×Mc) (k:Nat) (x:Value) (wr:World):Prop:=∃j c m1 H,j≤k∧r=go S j c m1∧G.up H∧Inv H S m1 wr∧((∃f l kk,c=.ap f l kk∧NxRep H wr.heap f l kk x)∨(∃v y,c=.done v∧x=.nilFunc∧wr.cell? ⟨H.mb,3,none⟩=some y∧VRep H v y))
theorem ql5 (w:World):(binOp .neq 297 .nilFunc .nilFunc).run prog w=.ok (.bool false) w:=by
 have h:∀d,(Op.equalIn (d+1) 297 .nilFunc .nilFunc).run prog w=.ok true w:=fun d=>by simp [Op.equalIn,run_underlying underlying297]
 have e:(Op.equal 297 .nilFunc .nilFunc).run prog w=.ok true w:=h 9999
 simp [binOp,e]
theorem qi4 (f:Fn) (a c:Array Value) (w:World):(binOp .neq 297 (.func f a c) .nilFunc).run prog w=.ok (.bool true) w:=by
 have h:∀d,(Op.equalIn (d+1) 297 (.func f a c) .nilFunc).run prog w=.ok false w:=fun d=>by simp [Op.equalIn,run_underlying underlying297]
 have e:(Op.equal 297 (.func f a c) .nilFunc).run prog w=.ok false w:=h 9999
 simp [binOp,e]
theorem eg311:Eg 311:=qak func311 (by kernel_rfl) (by kernel_rfl)
theorem qis {G G1 H:Gh} {S:Sub} {r:Ct×Mc} {n k:Nat} {c:Ct} {m:Mc} {e:Ending} {w:World} (h1:G1.up H) (h0:G.up G1) (hr:r=go S n c m) (he:Ct.ended r.1=true) (hn:n≤k) (o:Out H S c m e w):
  (∃x,e=.returned x∧RelA G1 S r k x w)∨(∃ps,e=.panicked ps∧RunOut G S r.1 r.2 (.panicked ps) w):=by
 cases o with
 |ap f l kk m w L x hu hi hx=>exact .inl ⟨x,rfl,n,_,m,L,hn,hr,h1.trans hu,hi,.inl ⟨f,l,kk,rfl,hx⟩⟩
 |done v m w L x hu hi hc hx=>exact .inl ⟨_,rfl,n,_,m,L,hn,hr,h1.trans hu,hi,.inr ⟨v,x,rfl,rfl,hc,hx⟩⟩
 |stop vd m w hc=>
  rw [qks n rfl]at hr
  subst hr
  exact .inr ⟨_,rfl,.stop vd m w (hc.up (h0.trans h1))⟩
theorem qem {S:Sub} (hp:∀n,SimP S n) (G:Gh) (tw:TabW G) (m:Mc) (w:World) (kx:Nat) (cx:Array Value) (N:Nat) (r:Ct×Mc) (i:Inv G S m w) (ex:Eg kx) (hr:Ct.ended r.1=true)
  (hE:∀w',Lk (w.alloc (.cells #[bp G.mb] 107)) w'→Calls prog kx (#[.pointer none,.func (.func 230) #[] #[bp w.heap.size]]++cx) w' fun e w2=>(∃x,e=.returned x∧RelA (G.add w.heap.size (.cells #[bp G.mb] 107)) S r N x w2)∨(∃ps,e=.panicked ps∧RunOut G S r.1 r.2 (.panicked ps) w2)):
  Calls prog 143 #[bp G.mb,.func (.func kx) #[] cx] w fun e w'=>RunOut G S r.1 r.2 e w':=by
 have HE:=hZ hE
 have HR:=hZ hr
 have HI:=hZ i
 have HTW:=hZ tw
 clear tw
 have eg3:∀args w,(callFunc 311 args).run prog w=.ok (.enter 311 args) w:=eg311
 have eg:∀args w,(callFunc kx args).run prog w=.ok (.enter kx args) w:=ex
 clear hE hr i ex
 go_enter func143,ntmps143
 go_wp2_with (go_at_fn kx;refine(HE.out _ (by exact⟨rfl,rfl,rfl,rfl⟩)).mono ?_;rintro e w2 (⟨x,rfl,hx⟩|⟨ps,rfl,hx⟩))
 ·have HX:=hZ hx
  clear hx
  go_wp2
  go_loopg [5] N (fun k x wr=>RelA (G.add w.heap.size (.cells #[bp G.mb] 107)) S r k x wr)
  case atStart=>exact HX.out
  case round=>
   obtain⟨j,c,m1,H,hj,hgo,hu,hi,hcase⟩:=hrel
   have HGo:=hZ hgo
   have HU:=hZ hu
   have HI':=hZ hi
   have HJ:=hZ hj
   clear hgo hu hi hj
   rcases hcase with⟨f,l,kk,rfl,hnx⟩|⟨v,y,rfl,rfl,hy,hvy⟩
   ·obtain⟨n,rfl⟩:∃n,j=n+1:=by
     cases j with
     |zero=>have h:=HR.out;rw [HGo.out]at h;simp [go,Ct.ended]at h
     |succ n=>exact⟨n,rfl⟩
    have he:Ct.ended (go S (n+1) (.ap f l kk) m1).1=true:=by rw [←HGo.out];exact HR.out
    obtain⟨c3,rfl,hcalls⟩:=sim_ap (hp n) H (((HTW.out).up ⟨Gh.le_add (HI.out.fresh (Nat.le_refl _)),rfl,rfl⟩).up HU.out) m1 wr f l kk _ HI'.out hnx he
    have hn297:∀w,(binOp BinOp.neq 297 (.func (.func 311) #[] c3) .nilFunc).run prog w=.ok (.bool true) w:=fun w=>qi4 _ _ _ w
    have HC:Hid (Calls prog 311 (#[]++c3) wr fun e w2=>(∃x,e=.returned x∧RelA (G.add w.heap.size (.cells #[bp G.mb] 107)) S r n x w2)∨(∃ps,e=.panicked ps∧RunOut G S r.1 r.2 (.panicked ps) w2)):=by
     refine Calls.mono hcalls ?_
     rintro e w2 ⟨j',c',m',hj',hgo',hout⟩
     exact qis HU.out ⟨Gh.le_add (HI.out.fresh (Nat.le_refl _)),rfl,rfl⟩ (HGo.out.trans hgo') HR.out (by omega) hout
    have e3:(#[]++c3:Array Value)=c3:=by simp
    have HC':Hid (Calls prog 311 c3 wr fun e w2=>(∃x,e=.returned x∧RelA (G.add w.heap.size (.cells #[bp G.mb] 107)) S r n x w2)∨(∃ps,e=.panicked ps∧RunOut G S r.1 r.2 (.panicked ps) w2)):=by
     have:=HC.out;rw [e3]at this;exact this
    clear hnx hcalls he e3 HC
    go_wp2_with (go_at_fn 311;refine HC'.out.mono ?_;rintro e w2 (⟨x2,rfl,hx2⟩|⟨ps,rfl,hx2⟩))
    ·go_wp2
     go_roundg n
     case measure=>have:=HJ.out;omega
     case rel=>exact hx2
    ·exact⟨rfl,hx2⟩
   ·have hn297:∀w,(binOp BinOp.neq 297 .nilFunc .nilFunc).run prog w=.ok (.bool false) w:=fun w=>ql5 w
    obtain⟨ty,yy,rfl⟩:=hvy.form
    have c1:wr.cell? ⟨w.heap.size,0,none⟩=some (.pointer (some ⟨G.mb,0,none⟩)):=by
     rw [HI'.out.cell (HU.out.le.I (Gh.add_at _ _ _))];rfl
    have hmb:H.mb=G.mb:=HU.out.le.mb
    rw [hmb]at hy
    have HV:=hZ hvy
    clear hvy hmb
    go_wp2
    go_ret
    have e:=HGo.out
    rw [qks j rfl]at e
    subst e
    exact .done v m1 wr H _ (Gh.up.trans ⟨Gh.le_add (HI.out.fresh (Nat.le_refl _)),rfl,rfl⟩ HU.out) HI'.out HV.out
 ·exact⟨rfl,hx⟩
end
section
open Sc
theorem qsn {S:Sub} (hp:∀n,SimP S n) (G:Gh) (tw:TabW G) (m:Mc) (w:World) (e:Ex) (kx:Nat) (cx:Array Value) (N:Nat) (i:Inv G S m w) (hc:CRep G [] e (.func (.func kx) #[] cx)) (he:Ct.ended (go S N (.ev e none []) m).1=true):
  Calls prog 143 #[bp G.mb,.func (.func kx) #[] cx] w fun e' w'=>RunOut G S (go S N (.ev e none []) m).1 (go S N (.ev e none []) m).2 e' w':=by
 obtain⟨kk,ck,hkx,ex⟩:=hc.isF
 cases hkx
 have i1:=i.alloc (.cells #[bp G.mb] 107)
 have x1:=i.x1 (.cells #[bp G.mb] 107)
 refine qem hp G tw m w kx cx N _ i ex he fun w' hw=>?_
 refine Calls.mono ((qav S N).1 _ m w' [] e none [] kx 230 cx _ none (Inv.lk hw i1) (hc.mono x1.le) .none (.nil none) (.nil w.heap.size (Gh.add_at _ _ _)) he) ?_
 rintro e' w2 ⟨j,c',m',h1,h2,h3⟩
 exact qis (Gh.up.refl _) x1.up h2 he h1 h3
theorem qq5 {S:Sub} (hp:∀n,SimP S n) (G:Gh) (tw:TabW G) (m:Mc) (w:World) (N:Nat) (i:Inv G S m w) (he:Ct.ended (go S N (.ev .skip none []) m).1=true):
  Calls prog 143 #[bp G.mb,.func (.func 235) #[] #[]] w fun e' w'=>RunOut G S (go S N (.ev .skip none []) m).1 (go S N (.ev .skip none []) m).2 e' w':=by
 have i1:=i.alloc (.cells #[bp G.mb] 107)
 have x1:=i.x1 (.cells #[bp G.mb] 107)
 obtain⟨n,rfl⟩:∃n,N=n+1:=by
  cases N with
  |zero=>simp [go,Ct.ended]at he
  |succ n=>exact⟨n,rfl⟩
 have hnx:Sc.next S (.ev .skip none []) m=(.ret .none [],m):=rfl
 refine qem hp G tw m w 235 #[] (n+1) _ i eg235 he fun w' hw=>?_
 rw [qan hnx rfl]at he⊢
 refine qkj 230 none #[bp w.heap.size] w' _ eg230 (fun e w h=>?_) ?_
 ·rcases h with⟨x,rfl,_⟩|⟨ps,rfl,_⟩
  ·exact .inl ⟨_,rfl⟩
  ·exact .inr ⟨_,rfl⟩
 ·intro w'' hw2
  refine Calls.mono ((qav S n).2 _ m w'' .none [] _ 230 _ (Inv.lk hw2 (Inv.lk hw i1)) .none (.nil w.heap.size (Gh.add_at _ _ _)) he) ?_
  rintro e' w2 ⟨j,c',m',h1,h2,h3⟩
  exact qis (Gh.up.refl _) x1.up h2 he (by omega) h3
end
section
open Sc
theorem PostS.up {G H:Gh} {S:Sub} {n:Nat} {c:Ct} {m:Mc} {e:Ending} {w:World} (hu:G.up H) (p:PostS H S n c m e w):PostS G S n c m e w:=by
 obtain⟨j,c',m',h1,h2,h3⟩:=p
 exact⟨j,c',m',h1,h2,h3.up hu⟩
theorem PostS.keeps {G:Gh} {S:Sub} {n:Nat} {c:Ct} {m:Mc} {v:Value} {w:World} (h:PostS G S n c m (.returned v) w) {b:Nat} {o:Obj} (hb:G.I b=some o):w.heap[b]? =some o:=h.post.keeps hb
def WorkOk (G:Gh) (S:Sub) (rv:Except Nat Vl×Mc) (e:Ending) (w1:World):Prop:=
 (∃H v' m' x',rv=(.ok v',m')∧e=.returned x'∧G.up H∧Inv H S m' w1∧VRep H v' x')∨(∃vd m',rv=(.error vd,m')∧e=.panicked (stopP (stopW vd m'))∧Cnt G S m' w1)
def Plain (S:Sub) (p:Pm):Prop:=∀m k l,carry S (.prim p) l k m=(if !p.isList&&l.length !=p.kinds.length then(.stop 7,m)else if p.grant !=0&&!granted p l then(.stop 9,m)else if !p.isList&&(List.zip p.kinds l).any (fun q=>!q.1.ok q.2)then(.stop 6,m)else match value S m p l with
    |(.error e,m)=>(.stop e,m)
    |(.ok v,m)=>(.ret v k,m))
theorem LRow.one {G:Gh} {h:Array Obj} {sa:Option Addr} {sc:Nat} {v:Vl} (hr:LRow G h (.slice sa 1 sc) [v]):∃g o arr x,sa=some ⟨g,o,none⟩∧1≤sc∧1≤1000000∧h[g]? =some (.cells arr 116 (0,0))∧(g∉G.mut∧¬G.F g)∧G.I g=none∧arr[o]? =some x∧VRep G v x:=by
 rcases hr with⟨h,_⟩|⟨g,o,cap,arr,e,hne,hc1,hc2,hg,hgm,hgi,hgf,hx⟩
 ·simp at h
 ·cases e
  obtain⟨x,h1,h2⟩:=hx 0 v rfl
  exact⟨g,o,arr,x,rfl,by simpa using hc1,hc2,hg,⟨hgm,hgf⟩,hgi,h1,h2⟩
theorem qar {S:Sub} {n:Nat} (p:Pm) (f:Nat) (cw:Array Value) (ef:Eg f) (hk0:p.kinds=[.any]) (hg0:p.grant=0) (hil:p.isList=false) (hc:Plain S p)
  (G:Gh) (m:Mc) (w:World) (al:List Vl) (k:List Fr) (q ku:Nat) (cu:Array Value) (sa:Option Addr) (sn sc:Nat)
  (hwork:∀(H:Gh) (w':World) (v:Vl) (x:Value),G.up H→Inv H S m w'→VRep H v x→Calls prog f (#[x]++cw) w' (WorkOk H S (value S m p [v])))
  (i:Inv G S m w) (hq:G.I q=some (.cells #[.func (.func f) #[] cw] 287 (0,0))) (hk:FRep G k (.func (.func ku) #[] cu)) (hr:LRow G w.heap (.slice sa sn sc) al) (he:Ct.ended (go S (n+1) (.ap (.prim p) al k) m).1=true):
  Calls prog 268 (#[.slice sa sn sc,.func (.func ku) #[] cu]++#[bp q]) w (PostS G S (n+1) (.ap (.prim p) al k) m):=by
 have hsn:sn=al.length:=by
  rcases hr with⟨rfl,a,cap,h⟩|⟨g,o,cap,arr,h,_⟩
  ·cases h;rfl
  ·cases h;rfl
 by_cases hlen:sn=1
 ·subst hlen
  obtain⟨v,rfl⟩:∃v,al=[v]:=by
   match al,hsn with
   | [a],_=>exact⟨a,rfl⟩
  obtain⟨g,o,arr,x,rfl,hc1,hc2,hg,hgm,hgi,hx1,hv⟩:=hr.one
  have i1:=i.fix hgm hgi hg
  have U1:G.up (G.add g (.cells arr 116)):=⟨Gh.le_add hgi,rfl,rfl⟩
  have hcar:Sc.next S (.ap (.prim p) [v] k) m=(match value S m p [v]with
    |(.error e,m)=>(.stop e,m)
    |(.ok v,m)=>(.ret v k,m)):=by
   show carry S (.prim p) [v] k m=_
   rw [hc];simp [hk0,hg0,hil,Kd.ok]
  obtain⟨t,y,rfl⟩:=hv.form
  obtain⟨kk,ck,hku,egu⟩:=hk.isF
  cases hku
  have qap:∀(w':World),(∀{b:Nat} {ob:Obj},(G.add g (.cells arr 116)).I b=some ob→w'.heap[b]? =some ob)→w'.cell? ⟨g,o,none⟩=some (.iface t y)∧w'.cell? ⟨q,0,none⟩=some (.func (.func f) #[] cw):=fun w' hw'=>by
   refine⟨?_,?_⟩
   ·simp only [World.cell?,hw' (Gh.add_at G g (.cells arr 116))];simpa using hx1
   ·simp [World.cell?,hw' (U1.le.I hq)]
  refine Calls.mono (R:=PostS (G.add g (.cells arr 116)) S (n+1) (.ap (.prim p) [v] k) m) ?_ (fun e w h=>h.up U1)
  refine qok g o sc q f ku t y cw cu w _ ef egu PostS.ends hv.vty (fun v w' p=>qap w' fun hb=>p.keeps hb) (qap w fun hb=>i1.imm hb).1 (qap w fun hb=>i1.imm hb).2 ?_
  intro w' hw
  refine Calls.mono (hwork _ w' v (.iface t y) U1 (Inv.lk hw i1) (hv.mono U1.le)) ?_
  rintro e w1 (⟨H,v',m',x',e1,rfl,hu,hi,hx'⟩|⟨vd,m',e1,rfl,hcn⟩)
  ·rw [e1]at hcar
   rw [qan hcar rfl]at he
   obtain⟨t',y',rfl⟩:=hx'.form
   refine .inl ⟨t',y',rfl,qap w1 fun hb=>hi.imm (hu.le.I hb),fun w2 hw2=>?_⟩
   exact Calls.mono ((qav S n).2 H m' w2 v' k _ ku cu (Inv.lk hw2 hi) hx' ((hk.mono U1.le).mono hu.le) he) fun e w p=>Post.stepS hcar rfl hu p
  ·rw [e1]at hcar
   exact .inr ⟨⟨_,rfl⟩,Post.stepS hcar rfl (Gh.up.refl _) (Post.now (.stop vd m' w1 hcn))⟩
 ·have hnx:Sc.next S (.ap (.prim p) al k) m=(.stop 7,m):=by
   show carry S (.prim p) al k m=_
   rw [hc]
   have:al.length≠1:=by omega
   simp [hk0,hil,this]
  obtain⟨xs,_,hxl,_,_,_,hx6⟩:=hr.vals
  refine Calls.mono (ql3 sa sn sc q ku cu w (by omega) hlen) ?_
  rintro e w' ⟨rfl,o',rfl⟩
  exact Post.stepS hnx rfl (Gh.up.refl G) (Post.now (.stop 7 _ _ (i.cntB (Nat.le_refl _) ((Below.refl _ _).alloc (Nat.le_refl _) _))))
end
end Go.Proofs.YtldaocpojcfljaaGreatDoor
