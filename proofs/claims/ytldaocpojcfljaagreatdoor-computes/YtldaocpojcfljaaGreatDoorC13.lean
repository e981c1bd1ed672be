import Derived.Test.YtldaocpojcfljaaGreatDoorC12
set_option maxRecDepth 100000
set_option maxHeartbeats 4000000
namespace Go.Proofs.YtldaocpojcfljaaGreatDoor
open Tryz hiding parts
open Go.RowKit Go.Shelf
section
open Sc
section
variable {S:Sub} {n:Nat} {G:Gh} {m:Mc} {w1:World} {sh:List Nat} {env:Option Nat} {k:List Fr} {ku:Nat} {cu:Array Value} {pf:Option Addr}
theorem sim_loc (ihv:SimV S n) (i:Inv G S {m with steps:=m.steps+1} w1) (hn:NRep G env pf) (hs:Sh G sh pf) (hk:FRep G k (.func (.func ku) #[] cu)) (hst:(m.steps:Int)<S.fuel) {u j N q:Nat} (hu:sh[u]? =some N) (hj:j<N) (hq:G.I q=some (.cells #[.int .i64 (u:Int),.int .i64 (j:Int)] 395 (0,0)))
  (hl:u≤1000000000) (hN:N≤1000000000) (he:Ct.ended (go S (n+1) (.ev (.loc u j) env k) m).1=true):
  Calls prog 366 (#[.pointer pf,.func (.func ku) #[] cu]++#[bp q]) w1 (Post G S (n+1) (.ev (.loc u j) env k) m):=by
 obtain⟨jx,fb,sv,vs,e',h1,h2,h3,h4,h5,h6,h7⟩:=i.find u hn hs hu
 have hnx:Sc.next S (.ev (.loc u j) env k) m=(.ret (local' {m with steps:=m.steps+1} env u j) k,{m with steps:=m.steps+1}):=by
  simp [Sc.next,Sc.step,hst]
 rw [qan hnx rfl]at he
 rcases h6 with⟨rfl,_⟩|⟨g,o,cap,arr,rfl,hne,hg,hx⟩
 ·simp at h7;omega
 have hjv:j<vs.length:=by omega
 obtain⟨x,hx1,hx2⟩:=hx j vs[j] (List.getElem?_eq_getElem hjv)
 have hloc:local' {m with steps:=m.steps+1} env u j=vs[j]:=by
  unfold local';rw [h1];simp only [h2];simp [hjv]
 obtain⟨kk,ck,hku,egu⟩:=hk.isF
 cases hku
 obtain⟨t,y,rfl⟩:=hx2.form
 subst h7
 refine local1 q u j fb g o vs.length cap t ku y pf cu w1 _ egu Post.ends (by rw [i.cell hq];rfl) (by rw [i.cell hq];rfl) h4 h5 hj hl hN (by simp [World.cell?,hg,hx1]) ?_
 intro w' hb
 rw [hloc]at hnx he
 exact Calls.mono (ihv G {m with steps:=m.steps+1} w' vs[j] k _ ku cu (i.below hb) hx2 hk he) fun e w p=>Post.step hnx rfl (Gh.up.refl G) p
theorem sim_glo (ihv:SimV S n) (i:Inv G S {m with steps:=m.steps+1} w1) (hk:FRep G k (.func (.func ku) #[] cu)) (hst:(m.steps:Int)<S.fuel) {s:Bs} {q b:Nat} (hq:G.I q=some (.cells #[bp b] 319 (0,0))) (hb:(s,b)∈G.B) (he:Ct.ended (go S (n+1) (.ev (.glo s) env k) m).1=true):
  Calls prog 368 (#[.pointer pf,.func (.func ku) #[] cu]++#[bp q]) w1 (Post G S (n+1) (.ev (.glo s) env k) m):=by
 obtain⟨x,hx1,hx2⟩:=i.gl hb
 have hc:w1.cell? ⟨b,0,none⟩=some x:=by simp [World.cell?,hx1]
 rcases hv:lookup s m.glob with _|v
 ·have hnx:Sc.next S (.ev (.glo s) env k) m=(.stop 5,{m with steps:=m.steps+1}):=by simp [Sc.next,Sc.step,hst,hv]
  have hx2:GVal G (lookup s m.glob) x:=hx2
  rw [hv]at hx2
  obtain rfl:x=.nilIface:=hx2
  refine Calls.mono (qjo q b pf ku cu w1 (by rw [i.cell hq];rfl) hc) ?_
  rintro e w ⟨rfl,o,rfl⟩
  exact Post.step hnx rfl (Gh.up.refl G) (Post.now (.stop 5 _ _ (i.cntB (Nat.le_refl _) ((Below.refl _ _).alloc (Nat.le_refl _) _))))
 ·have hnx:Sc.next S (.ev (.glo s) env k) m=(.ret v k,{m with steps:=m.steps+1}):=by simp [Sc.next,Sc.step,hst,hv]
  rw [qan hnx rfl]at he
  have hx2:GVal G (lookup s m.glob) x:=hx2
  rw [hv]at hx2
  have hx2:VRep G v x:=hx2
  obtain⟨t,y,rfl⟩:=hx2.form
  obtain⟨kk,ck,hku,egu⟩:=hk.isF
  cases hku
  refine qmk q b t y pf ku cu w1 _ egu Post.ends (by rw [i.cell hq];rfl) hc ?_
  intro w' hw
  exact Calls.mono (ihv G _ w' v k _ ku cu (Inv.lk hw i) hx2 hk he) fun e w p=>Post.step hnx rfl (Gh.up.refl G) p
theorem sim_ite (ihe:SimE S n) (i:Inv G S {m with steps:=m.steps+1} w1) (hn:NRep G env pf) (hs:Sh G sh pf) (hk:FRep G k (.func (.func ku) #[] cu)) (hst:(m.steps:Int)<S.fuel) {c t:Ex} {e:Option Ex} {q1 q2 q3:Nat} {xc xe xt:Value}
  (h1:G.I q1=some (.cells #[xc] 241 (0,0))) (h2:G.I q2=some (.cells #[xe] 241 (0,0))) (h3:G.I q3=some (.cells #[xt] 241 (0,0))) (hc:CRep G sh c xc) (ht:CRep G sh t xt) (hel:ORep G sh e xe) (he:Ct.ended (go S (n+1) (.ev (.ite c t e) env k) m).1=true):
  Calls prog 398 (#[.pointer pf,.func (.func ku) #[] cu]++#[bp q1,bp q2,bp q3]) w1 (Post G S (n+1) (.ev (.ite c t e) env k) m):=by
 have hnx:Sc.next S (.ev (.ite c t e) env k) m=(.ev c env (.ite t e env::k),{m with steps:=m.steps+1}):=by simp [Sc.next,Sc.step,hst]
 rw [qan hnx rfl]at he
 obtain⟨k1,c1,rfl,eg1⟩:=hc.isF
 have i2:=i.alloc2 (.cells #[.pointer pf] 378) (.cells #[.func (.func ku) #[] cu] 295)
 have x2:=i.x2 (.cells #[.pointer pf] 378) (.cells #[.func (.func ku) #[] cu] 295)
 refine if1 q1 q2 q3 pf ku cu k1 c1 w1 _ eg1 Post.ends (by rw [i.cell h1];rfl) ?_
 intro w' hw
 refine Calls.mono (ihe _ _ w' sh c env (.ite t e env::k) k1 399 c1 _ pf (Inv.lk hw i2) (hc.mono x2.le) (hn.mono x2.le) (hs.mono x2.le)
  (.ite sh t e env k q2 _ _ q3 xe xt (.func (.func ku) #[] cu) pf (x2.le.I h2) ?_ ?_ (x2.le.I h3) (ht.mono x2.le) (hel.mono x2.le) (hn.mono x2.le) (hs.mono x2.le) (hk.mono x2.le)) he) ?_
 ·rw [qae _ (by omega)];exact Gh.add_at _ _ _
 ·exact Gh.add_at _ _ _
 ·exact fun e w p=>Post.step hnx rfl x2.up p
theorem qim (ihe:SimE S n) (i:Inv G S {m with steps:=m.steps+1} w1) (hn:NRep G env pf) (hs:Sh G sh pf) (hk:FRep G k (.func (.func ku) #[] cu)) {e a:Ex} {t:Tg} {q1 q2:Nat} {xa xs:Value}
  (hnx:Sc.next S (.ev e env k) m=(.ev a env (.set t env::k),{m with steps:=m.steps+1}))
  (h1:G.I q1=some (.cells #[xa] 241 (0,0))) (h2:G.I q2=some (.cells #[xs] 413 (0,0))) (ha:CRep G sh a xa) (ht:TRep G sh t xs) (he:Ct.ended (go S (n+1) (.ev e env k) m).1=true):
  Calls prog 355 (#[.pointer pf,.func (.func ku) #[] cu]++#[bp q1,bp q2]) w1 (Post G S (n+1) (.ev e env k) m):=by
 rw [qan hnx rfl]at he
 obtain⟨k1,c1,rfl,eg1⟩:=ha.isF
 have i2:=i.alloc2 (.cells #[.pointer pf] 378) (.cells #[.func (.func ku) #[] cu] 295)
 have x2:=i.x2 (.cells #[.pointer pf] 378) (.cells #[.func (.func ku) #[] cu] 295)
 refine set1 q1 q2 pf ku cu k1 c1 w1 _ eg1 Post.ends (by rw [i.cell h1];rfl) ?_
 intro w' hw
 refine Calls.mono (ihe _ _ w' sh a env (.set t env::k) k1 356 c1 _ pf (Inv.lk hw i2) (ha.mono x2.le) (hn.mono x2.le) (hs.mono x2.le)
  (.set sh t env k q2 _ _ xs (.func (.func ku) #[] cu) pf (x2.le.I h2) ?_ ?_ (ht.mono x2.le) (hn.mono x2.le) (hs.mono x2.le) (hk.mono x2.le)) he) ?_
 ·rw [qae _ (by omega)];exact Gh.add_at _ _ _
 ·exact Gh.add_at _ _ _
 ·exact fun e w p=>Post.step hnx rfl x2.up p
theorem sim_seq (ihe:SimE S n) (i:Inv G S {m with steps:=m.steps+1} w1) (hn:NRep G env pf) (hs:Sh G sh pf) (hk:FRep G k (.func (.func ku) #[] cu)) (hst:(m.steps:Int)<S.fuel) {a:Ex} {l:List Ex} {ky:Nat} {cy:Array Value}
  (h:SRep G sh (a::l) (.func (.func ky) #[] cy)) (he:Ct.ended (go S (n+1) (.ev (.seq a l) env k) m).1=true):
  Calls prog ky (#[.pointer pf,.func (.func ku) #[] cu]++cy) w1 (Post G S (n+1) (.ev (.seq a l) env k) m):=by
 have hnx:Sc.next S (.ev (.seq a l) env k) m=(bodyOf (a::l) env k,{m with steps:=m.steps+1}):=by simp [Sc.next,Sc.step,hst]
 rw [qan hnx rfl]at he
 exact Calls.mono (qd2 ihe G _ w1 sh (a::l) env k ky ku cy cu pf i h hn hs hk he) fun e w p=>Post.step hnx rfl (Gh.up.refl G) p
theorem sim_app (ihe:SimE S n) (i:Inv G S {m with steps:=m.steps+1} w1) (hn:NRep G env pf) (hs:Sh G sh pf) (hk:FRep G k (.func (.func ku) #[] cu)) (hst:(m.steps:Int)<S.fuel) {f:Ex} {l:List Ex} {q1 q2:Nat} {sl:Value} {xs:List Value}
  (h1:G.mbox q1) (h2:G.I q2=some (.cells #[sl] 426 (0,0))) (hbn:xs.length≤90000) (hr:RowI G 241 sl xs) (hx:XRep G sh (f::l) xs) (he:Ct.ended (go S (n+1) (.ev (.app f l) env k) m).1=true):
  Calls prog 370 (#[.pointer pf,.func (.func ku) #[] cu]++#[bp q1,bp q2]) w1 (Post G S (n+1) (.ev (.app f l) env k) m):=by
 have hnx:Sc.next S (.ev (.app f l) env k) m=(.ev f env (.app [] l env::k),{m with steps:=m.steps+1}):=by simp [Sc.next,Sc.step,hst]
 rw [qan hnx rfl]at he
 cases hx with
 |cons sh f l x0 xs hf hl=>
  obtain⟨g,o,cap,arr,rfl,hg,hc,hm,hrow⟩:=hr
  obtain⟨k1,c1,rfl,eg1⟩:=hf.isF
  have i1:=i.alloc (.cells #[.func (.func ku) #[] cu] 295)
  have x1:=i.x1 (.cells #[.func (.func ku) #[] cu] 295)
  refine app1 q1 q2 G.mb g o (xs.length+1) cap pf ku cu w1 _ Post.ends (by rw [i.cell h1];rfl) (by rw [i.cell h2];rfl) ?_
  intro w' hw
  have i1':=Inv.lk hw i1
  have hs1:w'.heap.size=w1.heap.size+1:=by rw [hw.heap];simp
  have hgc:w'.cell? ⟨g,o,none⟩=some (.func (.func k1) #[] c1):=by
   rw [i1'.cell (x1.le.I hg)];exact hrow 0 _ rfl
  have i6:=i1'.alloc5 (.cells #[bp G.mb] 107) (.cells #[.slice (some ⟨g,o,none⟩) (xs.length+1) cap] 426) (.cells #[.pointer pf] 378) (.cells #[.pointer none] 470) (.cells #[.func (.func 372) #[] #[bp q1,bp w1.heap.size]] 450)
  have x6:=i1'.x5 (.cells #[bp G.mb] 107) (.cells #[.slice (some ⟨g,o,none⟩) (xs.length+1) cap] 426) (.cells #[.pointer pf] 378) (.cells #[.pointer none] 470) (.cells #[.func (.func 372) #[] #[bp q1,bp w1.heap.size]] 450)
  refine qev G.mb g o xs.length cap k1 c1 pf none 372 #[bp q1,bp w1.heap.size] w' _ eg1 Post.ends hgc ?_
  intro w'' hw2
  have L:=x1.le.trans x6.le
  refine Calls.mono (ihe _ _ w'' sh f env (.app [] l env::k) k1 396 c1 _ pf (Inv.lk hw2 i6) (hf.mono L) (hn.mono L) (hs.mono L)
   (.app sh [] l env k _ _ _ _ _ q1 w1.heap.size (.slice (some ⟨g,o,none⟩) (xs.length+1) cap) (.func (.func k1) #[] c1) (.func (.func ku) #[] cu) xs pf none ?_ ?_ ?_ ?_ ?_ ?_ ?_ (by simp at hbn⊢;omega) ?_ (hl.mono L) .nil (hn.mono L) (hs.mono L) (hk.mono L)) he) ?_
  ·show _=some (Obj.cells #[bp G.mb] 107 (0,0))
   rw [qae _ (by omega),qae _ (by omega),qae _ (by omega),qae _ (by omega)];exact Gh.add_at _ _ _
  ·rw [qae _ (by omega),qae _ (by omega),qae _ (by omega)];exact Gh.add_at _ _ _
  ·rw [qae _ (by omega),qae _ (by omega)];exact Gh.add_at _ _ _
  ·rw [qae _ (by omega)];exact Gh.add_at _ _ _
  ·exact Gh.add_at _ _ _
  ·exact L.mbox h1
  ·exact x6.le.I (Gh.add_at _ _ _)
  ·exact⟨g,o,cap,arr,rfl,L.I hg,hc,hm,hrow⟩
  ·exact fun e w p=>Post.step hnx rfl (x1.up.trans x6.up) p
end
end
section
open Sc
section
variable {G:Gh} {S:Sub} {m:Mc} {w:World}
theorem Inv.setEnv (i:Inv G S m w) {j fb g o n cap a:Nat} {vs:List Vl} {e:Option Nat} {v:Vl} {x:Value} (hE:G.E[j]? =some (fb,.slice (some ⟨g,o,none⟩) (n+1) cap)) (hm:m.envs[j]? =some (vs,e)) (hl:vs.length=n+1) (ha:a<n+1) (hv:VRep G v x):
  Inv G S {m with envs:=m.envs.modify j fun(l,u)=>(l.set a v,u)} (w.setCell ⟨g,o+a,none⟩ x):=by
 have hlt:=i.lateE hE
 refine i.turn (i.m6 hE) (fun c hc=>qaa c hc) qaf ⟨rfl,rfl,rfl⟩ (i.st.keep (qaa _ (Ne.symm hlt.2.1))) (i.ce.keep (qaa _ (Ne.symm hlt.2.2.1))) i.sl.1 i.cl.1
  (by rw [qaa (a:=⟨g,o+a,none⟩) _ (Ne.symm hlt.1)];exact i.ma) (by rw [qaa (a:=⟨g,o+a,none⟩) _ (Ne.symm hlt.2.2.2)];exact i.mp)
  (i.glKeep (fun c hc=>qaa c hc) fun s c h e=>?_) i.gd ?_ (by simp only [List.length_modify];exact i.el) i.jl
 ·have e:c=g:=e
  subst e
  exact(List.nodup_append.1 i.nd2).2.2 _ (List.mem_map.2 ⟨_,h,rfl⟩) _ (qc7 hE) rfl
 ·intro j' vs' e' hj'
  have hj':(m.envs.modify j fun(l,u)=>(l.set a v,u))[j']? =some (vs',e'):=hj'
  by_cases hjj:j=j'
  ·subst hjj
   rw [List.getElem?_modify]at hj'
   simp only [if_true,hm]at hj'
   cases hj'
   obtain⟨fb2,sv2,pf2,e1,e2,e3,e4⟩:=i.en hm
   rw [hE]at e1;cases e1
   refine⟨fb,_,pf2,hE,e2,e3,?_⟩
   rcases e4 with⟨h1,_⟩|⟨g',o',cap',arr,h1,h2,h3,h4⟩
   ·subst h1;simp at hl
   ·have h1':g=g'∧o=o'∧n+1=vs.length∧cap=cap':=by simpa [and_assoc]using h1
    obtain⟨rfl,rfl,_,rfl⟩:=h1'
    have hao:o+a<arr.size:=by
     obtain⟨y,hy,_⟩:=h4 a vs[a] (List.getElem?_eq_getElem (by omega))
     exact(Array.getElem?_eq_some_iff.1 hy).1
    refine .inr ⟨g,o,cap,arr.setIfInBounds (o+a) x,by simp;omega,by intro e;apply h2;simpa using congrArg List.length e,?_,?_⟩
    ·simp [World.setCell,Array.getElem?_modify,h3]
    ·intro b u hb
     by_cases hab:a=b
     ·subst hab
      rw [List.getElem?_set]at hb
      simp only [if_true]at hb
      rw [if_pos (by omega)]at hb
      cases hb
      exact⟨x,by simp [hao],hv⟩
     ·rw [List.getElem?_set_ne hab]at hb
      obtain⟨y,hy1,hy2⟩:=h4 b u hb
      exact⟨y,by rw [Array.getElem?_setIfInBounds_ne (by omega)];exact hy1,hy2⟩
  ·rw [List.getElem?_modify]at hj'
   have hj2:m.envs[j']? =some (vs',e'):=by
    rcases hx:m.envs[j']? with _|p
    ·rw [hx]at hj';simp at hj'
    ·rw [hx]at hj';simpa [hjj]using hj'
   obtain⟨fb2,sv2,pf2,e1,e2,e3,e4⟩:=i.en hj2
   refine⟨fb2,sv2,pf2,e1,e2,e3,e4.mono (Gh.le.refl _) fun g' o' n' cap' hsv=>qaa (a:=⟨g,o+a,none⟩) g' fun eg=>?_⟩
   have eg:g'=g:=eg
   subst eg
   subst hsv
   have hnd:=(List.nodup_append.1 i.nd2).2.1
   have hj1:j<G.E.length:=(List.getElem?_eq_some_iff.1 hE).1
   have hj3:j'<G.E.length:=(List.getElem?_eq_some_iff.1 e1).1
   have key:∀(L:List (Nat×Value)) (p q:Nat) (b c:Nat×Value),p<q→L[p]? =some b→L[q]? =some c→g'∈rowOf b.2→g'∈rowOf c.2→¬(L.flatMap fun x=>rowOf x.2).Nodup:=by
    intro L
    induction L with
    |nil=>intro p q b c _ h;simp at h
    |cons y r ih=>
     intro p q b c hpq hp hq hb hc hn
     rw [List.flatMap_cons,List.nodup_append]at hn
     cases q with
     |zero=>omega
     |succ q=>
      have hq:r[q]? =some c:=by simpa using hq
      cases p with
      |zero=>
       have hp:y=b:=by simpa using hp
       subst hp
       exact hn.2.2 g' hb g' (List.mem_flatMap.2 ⟨c,List.mem_of_getElem? hq,hc⟩) rfl
      |succ p=>exact ih p q b c (by omega) (by simpa using hp) hq hb hc hn.2.1
   rcases Nat.lt_or_gt_of_ne hjj with hlt'|hlt'
   ·exact key G.E j j' _ _ hlt' hE e1 (by simp [rowOf]) (by simp [rowOf]) hnd
   ·exact key G.E j' j _ _ hlt' e1 hE (by simp [rowOf]) (by simp [rowOf]) hnd
end
theorem VRep.proc_iff {G:Gh} {v:Vl} {t:Nat} {y:Value} (h:VRep G v (.iface t y)):isProc v=decide (t=281):=by
 cases h with
 |proc v b h=>cases h <;> rfl
 |_=>rfl
theorem qbr {S:Sub} {n:Nat} (G:Gh) (m:Mc) (w:World) (f:Vl) (l:List Vl) (k:List Fr) (x:Value) (sa:Option Addr) (sn sc ku:Nat) (cu:Array Value)
  (i:Inv G S m w) (hf:VRep G f x) (hl:LRow G w.heap (.slice sa sn sc) l) (hk:FRep G k (.func (.func ku) #[] cu)):
  Calls prog 283 #[bp G.mb,x,.slice sa sn sc,.func (.func ku) #[] cu] w (Post G S n (applyTo S f l k m).1 (applyTo S f l k m).2):=by
 by_cases hst:(m.steps:Int)<S.fuel
 ·have i1:=i.steps (m.steps+1) (by push_cast;omega)
  obtain⟨t,y,rfl⟩:=hf.form
  by_cases ht:t=281
  ·subst ht
   have ha:applyTo S f l k m=(.ap f l k,{m with steps:=m.steps+1}):=by simp [applyTo,Sc.step,hst,hf.proc_iff]
   rw [ha]
   cases hf with
   |proc v b hq=>
    refine Calls.mono (qtf G.mb G.sb b ku m.steps S.fuel sa sn sc cu w i.mb0 i.st (by omega) (by omega) (by have:=i.sl.2;omega)) ?_
    rintro e w' ⟨rfl,hw⟩
    have i1:Inv G S {m with steps:=m.steps+1} (w.setCell ⟨G.sb,0,none⟩ (.int .i64 ((m.steps:Int)+1))):=by simpa using i1
    have i4:=i1.alloc3 (.cells #[.slice sa sn sc] 184) (.cells #[.func (.func ku) #[] cu] 295) (.cells #[.pointer (some ⟨b,0,none⟩)] 281)
    have x4:=i1.x3 (.cells #[.slice sa sn sc] 184) (.cells #[.func (.func ku) #[] cu] 295) (.cells #[.pointer (some ⟨b,0,none⟩)] 281)
    rw [qaf]at i4 x4
    refine Post.now (.ap f l k _ w' _ _ x4.up (Inv.lk hw i4) (.mk f l k (w.heap.size+2) w.heap.size (w.heap.size+1) b (.slice sa sn sc) (.func (.func ku) #[] cu) ?_ ?_ ?_ (hq.mono x4.le) ?_ (hk.mono x4.le)))
    ·exact Gh.add_at _ _ _
    ·rw [qae _ (by omega),qae _ (by omega)];exact Gh.add_at _ _ _
    ·rw [qae _ (by omega)];exact Gh.add_at _ _ _
    ·rcases hl with⟨h1,h2⟩|⟨g,o,cap,arr,h1,h2,h3,h4,h5,h6,h7,h8,h9⟩
     ·exact .inl ⟨h1,h2⟩
     ·have hgl:g<w.heap.size:=(Array.getElem?_eq_some_iff.1 h5).1
      have hgs:g≠G.sb:=fun e=>h6 (e▸i.m2)
      refine .inr ⟨g,o,cap,arr,h1,h2,h3,h4,?_,by rw [x4.mut];exact h6,by rw [x4.I hgl];exact h7,by rw [x4.F];exact h8,fun q u hu=>?_⟩
      ·rw [hw.heap,Below.heap_alloc _ _ _ (by simp;omega),Below.heap_alloc _ _ _ (by simp;omega),Below.heap_alloc _ _ _ (by simp;omega),qaa (a:=⟨G.sb,0,none⟩) g hgs];exact h5
      ·obtain⟨z,z1,z2⟩:=h9 q u hu
       exact⟨z,z1,z2.mono x4.le⟩
  ·have ha:applyTo S f l k m=(.stop 6,{m with steps:=m.steps+1}):=by simp [applyTo,Sc.step,hst,hf.proc_iff,ht]
   rw [ha]
   refine Calls.mono (qqf G.mb G.sb t ku y m.steps S.fuel sa sn sc cu w i.mb0 i.st (by omega) (by omega) (by have:=i.sl.2;omega) ht) ?_
   rintro e w' ⟨rfl,hb⟩
   have i1:Inv G S {m with steps:=m.steps+1} (w.setCell ⟨G.sb,0,none⟩ (.int .i64 ((m.steps:Int)+1))):=by simpa using i1
   exact Post.now (.stop 6 _ _ (i1.cntB (by rw [qaf];exact Nat.le_refl _) hb))
 ·have ha:applyTo S f l k m=(.stop 10,m):=by simp [applyTo,Sc.step,hst]
  rw [ha]
  have hm:(m.steps:Int)=S.fuel:=by have:=i.sl.1;omega
  have hM:=i.st
  rw [←hm]at hM
  refine Calls.mono (qqe G.mb G.sb ku x m.steps sa sn sc cu w i.mb0 hM (by omega) (by have:=i.sl.2;omega)) ?_
  rintro e w' ⟨rfl,hb⟩
  have i1:=i.steps m.steps (by omega)
  exact Post.now (.stop 10 _ _ (i1.cntB (by rw [qaf];exact Nat.le_refl _) hb))
end
section
open Sc
theorem HRep.chn {G:Gh} {S:Sub} {m:Mc} {w:World} (i:Inv G S m w):∀{vs:List Vl} {p:Option Addr},HRep G vs p→∃xs,Chn w xs p∧VsRep G vs xs
 |_,_,.nil=>⟨[],rfl,rfl,fun j v x h=>by simp at h⟩
 |_,_,.cons v r b x pd hb hv hr=>by
  obtain⟨xs,h1,h2⟩:=HRep.chn i hr
  refine⟨x::xs,⟨b,pd,rfl,by rw [←h2.1];exact i.imm hb,h1⟩,by simp [h2.1],?_⟩
  intro j u y hu hy
  cases j with
  |zero=>simp at hu hy;subst hu;subst hy;exact hv
  |succ j=>exact h2.2 j u y (by simpa using hu) (by simpa using hy)
theorem Chn.gsize {w:World}:∀{xs:List Value} {p:Option Addr},Chn w xs p→Gsize w p (xs.length:Int)
 | [],_,h=>.inl ⟨h,rfl⟩
 |x::r,_,⟨b,q,e1,e2,_⟩=>.inr ⟨b,e1,by simp [World.cell?,e2]⟩
section
variable {S:Sub} {n:Nat} {G:Gh} {m:Mc} {w:World} {v:Vl} {x:Value} {k:List Fr}
theorem ret_nil (i:Inv G S m w) (hv:VRep G v x) {q:Nat} (hq:G.mbox q):
  Calls prog 230 (#[x]++#[bp q]) w (Post G S (n+1) (.ret v []) m):=by
 obtain⟨t,y,rfl⟩:=hv.form
 obtain⟨z,hz⟩:=i.mb3
 refine Calls.mono (run1 q G.mb t y z w (by rw [i.cell hq];rfl) hz (i.mbf 3)) ?_
 rintro e w' ⟨rfl,rfl⟩
 refine Post.step (c1:=.done v) (m1:=m) (by simp [Sc.next]) rfl (Gh.up.refl G) (Post.now (.done v m _ G (.iface t y) (Gh.up.refl G) (i.given _) ?_ hv))
 obtain⟨gv,wp,a,_⟩:=i.ma
 simp [World.cell?,World.setCell,Array.getElem?_modify,a]
theorem ret_ite (ihe:SimE S n) (ihv:SimV S n) (i:Inv G S m w) (hv:VRep G v x) {sh:List Nat} {t:Ex} {e:Option Ex} {env:Option Nat} {q1 q2 q3 q4:Nat} {xe xt u:Value} {pf:Option Addr}
  (h1:G.I q1=some (.cells #[xe] 241 (0,0))) (h2:G.I q2=some (.cells #[.pointer pf] 378 (0,0))) (h3:G.I q3=some (.cells #[u] 295 (0,0))) (h4:G.I q4=some (.cells #[xt] 241 (0,0)))
  (ht:CRep G sh t xt) (hel:ORep G sh e xe) (hn:NRep G env pf) (hs:Sh G sh pf) (hk:FRep G k u) (he:Ct.ended (go S (n+1) (.ret v (.ite t e env::k)) m).1=true):
  Calls prog 399 (#[x]++#[bp q1,bp q2,bp q3,bp q4]) w (Post G S (n+1) (.ret v (.ite t e env::k)) m):=by
 obtain⟨ku,cu,rfl,egu⟩:=hk.isF
 obtain⟨kt,ct,rfl,egt⟩:=ht.isF
 obtain⟨ke,ce,rfl,ege⟩:=hel.isF
 obtain⟨ty,y,rfl⟩:=hv.form
 have c1:w.cell? ⟨q1,0,none⟩=some (.func (.func ke) #[] ce):=by rw [i.cell h1];rfl
 have c2:w.cell? ⟨q2,0,none⟩=some (.pointer pf):=by rw [i.cell h2];rfl
 have c3:w.cell? ⟨q3,0,none⟩=some (.func (.func ku) #[] cu):=by rw [i.cell h3];rfl
 have c4:w.cell? ⟨q4,0,none⟩=some (.func (.func kt) #[] ct):=by rw [i.cell h4];rfl
 by_cases hf:v=.bool false
 ·subst hf
  cases hv with
  |bool b=>
   refine qme q1 q2 q3 q4 pf ku cu ke ce w _ ege Post.ends c1 c2 c3 ?_
   intro w' hw
   cases hel with
   |none=>
    have hnx:Sc.next S (.ret (.bool false) (.ite t none env::k)) m=(.ret .none k,m):=rfl
    rw [qan hnx rfl]at he
    refine qkj ku pf cu w' _ egu Post.ends ?_
    intro w'' hw2
    exact Calls.mono (ihv G m w'' .none k _ ku cu (Inv.lk hw2 (Inv.lk hw i)) .none hk he) fun e w p=>Post.step hnx rfl (Gh.up.refl G) p
   |some sh e x hc=>
    have hnx:Sc.next S (.ret (.bool false) (.ite t (some e) env::k)) m=(.ev e env k,m):=rfl
    rw [qan hnx rfl]at he
    exact Calls.mono (ihe G m w' sh e env k ke ku ce cu pf (Inv.lk hw i) hc hn hs hk he) fun e w p=>Post.step hnx rfl (Gh.up.refl G) p
  |proc v b h=>cases h
 ·have hnx:Sc.next S (.ret v (.ite t e env::k)) m=(.ev t env k,m):=by
   unfold Sc.next;split <;> simp_all
  rw [qan hnx rfl]at he
  have go:∀w',Lk w w'→Calls prog kt (#[.pointer pf,.func (.func ku) #[] cu]++ct) w' (Post G S (n+1) (.ret v (.ite t e env::k)) m):=fun w' hw=>
   Calls.mono (ihe G m w' sh t env k kt ku ct cu pf (Inv.lk hw i) ht hn hs hk he) fun e w p=>Post.step hnx rfl (Gh.up.refl G) p
  by_cases hty:ty=181
  ·subst hty
   cases hv with
   |bool b=>
    cases b with
    |false=>exact absurd rfl hf
    |true=>exact qo4 q1 q2 q3 q4 pf ku cu kt ct w _ egt Post.ends c4 c2 c3 go
  ·exact qo5 ty y q1 q2 q3 q4 pf ku cu kt ct w _ egt Post.ends c4 c2 c3 hty go
theorem qrh (ihe:SimE S n) (i:Inv G S m w) {sh:List Nat} {l:List Ex} {env:Option Nat} {q1 q2 q3:Nat} {xl u:Value} {pf:Option Addr}
  (h1:G.I q1=some (.cells #[xl] 241 (0,0))) (h2:G.I q2=some (.cells #[.pointer pf] 378 (0,0))) (h3:G.I q3=some (.cells #[u] 295 (0,0)))
  (hl:SRep G sh l xl) (hn:NRep G env pf) (hs:Sh G sh pf) (hk:FRep G k u) (he:Ct.ended (go S (n+1) (.ret v (.body l env::k)) m).1=true):
  Calls prog 385 (#[x]++#[bp q1,bp q2,bp q3]) w (Post G S (n+1) (.ret v (.body l env::k)) m):=by
 obtain⟨ku,cu,rfl,egu⟩:=hk.isF
 obtain⟨kl,cl,rfl,egl⟩:=hl.isF
 have hnx:Sc.next S (.ret v (.body l env::k)) m=(bodyOf l env k,m):=rfl
 rw [qan hnx rfl]at he
 refine seq11 x q1 q2 q3 pf ku cu kl cl w _ egl Post.ends (by rw [i.cell h1];rfl) (by rw [i.cell h2];rfl) (by rw [i.cell h3];rfl) ?_
 intro w' hw
 exact Calls.mono (qd2 ihe G m w' sh l env k kl ku cl cu pf (Inv.lk hw i) hl hn hs hk he) fun e w p=>Post.step hnx rfl (Gh.up.refl G) p
end
end
section
open Sc
theorem VsRep.reverse {G:Gh} {vs:List Vl} {xs:List Value} (h:VsRep G vs xs):VsRep G vs.reverse xs.reverse:=by
 refine⟨by simp [h.1],fun j v x hv hx=>?_⟩
 have hj:j<vs.length:=by simpa using (List.getElem?_eq_some_iff.1 hv).1
 rw [List.getElem?_reverse hj]at hv
 rw [List.getElem?_reverse (by rw [←h.1];exact hj),←h.1]at hx
 exact h.2 _ v x hv hx
section
variable {S:Sub} {n:Nat} {G:Gh} {m:Mc} {w:World} {v:Vl} {x:Value} {k:List Fr}
theorem ret_app (ihe:SimE S n) (i:Inv G S m w) (hv:VRep G v x) {sh:List Nat} {vs:List Vl} {l:List Ex} {env:Option Nat} {q1 q2 q3 q4 q5 q6 q7:Nat} {sl x0 u:Value} {xs:List Value} {pf pd:Option Addr}
  (h1:G.mbox q1) (h2:G.I q2=some (.cells #[sl] 426 (0,0))) (h3:G.I q3=some (.cells #[.pointer pf] 378 (0,0))) (h4:G.I q4=some (.cells #[.pointer pd] 470 (0,0))) (h5:G.I q5=some (.cells #[.func (.func 372) #[] #[bp q6,bp q7]] 450 (0,0))) (h6:G.mbox q6) (h7:G.I q7=some (.cells #[u] 295 (0,0)))
  (hb:vs.length+xs.length≤90000) (hr:RowI G 241 sl (x0::xs)) (hx:XRep G sh l xs) (hc:HRep G vs.reverse pd) (hn:NRep G env pf) (hs:Sh G sh pf) (hk:FRep G k u) (he:Ct.ended (go S (n+1) (.ret v (.app vs l env::k)) m).1=true):
  Calls prog 396 (#[x]++#[bp q1,bp q2,bp q3,bp q4,bp q5]) w (Post G S (n+1) (.ret v (.app vs l env::k)) m):=by
 obtain⟨ku,cu,rfl,egu⟩:=hk.isF
 obtain⟨ty,y,rfl⟩:=hv.form
 obtain⟨g,o,cap,arr,rfl,hg,hcap,hm,hrow⟩:=hr
 obtain⟨cs,hch,hvs⟩:=hc.chn i
 have hcl:cs.length=vs.length:=by rw [←hvs.1];simp
 have i1:=i.alloc (.cells #[.iface ty y,.pointer pd,.int .i64 ((cs.length:Int)+1)] 485)
 have x1:=i.x1 (.cells #[.iface ty y,.pointer pd,.int .i64 ((cs.length:Int)+1)] 485)
 have hcap':xs.length+1≤cap:=by simpa using hcap
 refine gather1 q1 q2 q3 q4 q5 G.mb g o xs.length cap ty 372 y pf pd cs.length #[bp q6,bp q7] w _ Post.ends (by rw [i.cell h1];rfl) (by rw [i.cell h2];rfl) (by rw [i.cell h3];rfl)
  (fun v w' p=>⟨p.cell h1,p.cell h2,p.cell h3,p.cell h4,p.cell h5⟩) (by rw [i.cell h4];rfl) (by rw [i.cell h5];rfl) hch.gsize (by omega) (by omega) hcap' (by simpa using hm) ?_
 intro w' hw
 have i1':=Inv.lk hw i1
 have hs1:w'.heap.size=w.heap.size+1:=by rw [hw.heap];simp
 have hc':HRep (G.add w.heap.size (.cells #[.iface ty y,.pointer pd,.int .i64 ((cs.length:Int)+1)] 485)) (v::vs.reverse) (some ⟨w.heap.size,0,none⟩):=
  .cons v vs.reverse w.heap.size (.iface ty y) pd (by rw [hcl];simp only [List.length_reverse];exact Gh.add_at _ _ _) (hv.mono x1.le) (hc.mono x1.le)
 cases hx with
 |nil=>
  obtain⟨cs',hch',hvs'⟩:=hc'.chn i1'
  have hcl':cs'.length=vs.length+1:=by rw [←hvs'.1];simp
  have i6:=i1'.alloc5 (.cells #[bp G.mb] 107) (.cells #[.slice (tl1 g o cap) 0 (cap-1)] 426) (.cells #[.pointer pf] 378) (.cells #[.pointer (some ⟨w.heap.size,0,none⟩)] 470) (.cells #[.func (.func 372) #[] #[bp q6,bp q7]] 450)
  have x6:=i1'.x5 (.cells #[bp G.mb] 107) (.cells #[.slice (tl1 g o cap) 0 (cap-1)] 426) (.cells #[.pointer pf] 378) (.cells #[.pointer (some ⟨w.heap.size,0,none⟩)] 470) (.cells #[.func (.func 372) #[] #[bp q6,bp q7]] 450)
  have L:=x1.le.trans x6.le
  have U:=x1.up.trans x6.up
  obtain⟨f,al,hfl⟩:∃f al,vs++[v]=f::al:=by
   cases vs with
   |nil=>exact⟨v,[],rfl⟩
   |cons a r=>exact⟨a,r++[v],rfl⟩
  have hnx:Sc.next S (.ret v (.app vs [] env::k)) m=applyTo S f al k m:=by
   simp only [Sc.next,hfl]
  have hrev:(v::vs.reverse).reverse=vs++[v]:=by simp
  have hone:∀x∈cs',∃t v,x=Value.iface t v:=fun x hx=>by
   obtain⟨j,hj,rfl⟩:=List.mem_iff_getElem.1 hx
   have hj':j<(v::vs.reverse).length:=by rw [hvs'.1];exact hj
   exact(hvs'.2 j _ _ (List.getElem?_eq_getElem hj') (List.getElem?_eq_getElem hj)).form
  have hvr:VsRep (G.add w.heap.size (.cells #[.iface ty y,.pointer pd,.int .i64 ((cs.length:Int)+1)] 485)) (f::al) cs'.reverse:=by
   have:=hvs'.reverse;rw [hrev,hfl]at this;exact this
  have hal:al.length=vs.length:=by have:=congrArg List.length hfl;simp at this;omega
  have hrl:cs'.reverse.length=al.length+1:=by simp;omega
  obtain⟨xf,xr,hxr⟩:∃xf xr,cs'.reverse=xf::xr:=by
   cases h:cs'.reverse with
   |nil=>rw [h]at hrl;simp at hrl
   |cons a r=>exact⟨a,r,rfl⟩
  rw [hxr]at hvr
  have hxf:=(hvr.2 0 f xf rfl rfl).mono x6.le
  obtain⟨tf,yf,rfl⟩:=hxf.form
  have hsz:(((((w'.alloc (.cells #[bp G.mb] 107)).alloc (.cells #[.slice (tl1 g o cap) 0 (cap-1)] 426)).alloc (.cells #[.pointer pf] 378)).alloc (.cells #[.pointer (some ⟨w.heap.size,0,none⟩)] 470)).alloc (.cells #[.func (.func 372) #[] #[bp q6,bp q7]] 450)).heap.size=w'.heap.size+5:=by simp
  have i7:=i6.below ((Below.refl _ _).alloc (Nat.le_refl _) (.cells cs'.reverse.toArray 116))
  have hnew:((((((w'.alloc (.cells #[bp G.mb] 107)).alloc (.cells #[.slice (tl1 g o cap) 0 (cap-1)] 426)).alloc (.cells #[.pointer pf] 378)).alloc (.cells #[.pointer (some ⟨w.heap.size,0,none⟩)] 470)).alloc (.cells #[.func (.func 372) #[] #[bp q6,bp q7]] 450)).alloc (.cells cs'.reverse.toArray 116)).heap[w'.heap.size+5]? =some (.cells cs'.reverse.toArray 116 (0,0)):=by
   rw [←hsz];exact heap_alloc_new _ _
  refine Calls.mono (R:=Post _ S n (applyTo S f al k m).1 (applyTo S f al k m).2) ?_ (fun e w p=>Post.step hnx rfl U p)
  refine qml G.mb 372 #[bp q6,bp q7] (tl1 g o cap) pf (some ⟨w.heap.size,0,none⟩) (cap-1) cs' w' _ eg372 Post.ends (fun v w2 p=>⟨p.cell (Gh.add_at _ _ _),p.cell (by rw [qae _ (by omega)];exact Gh.add_at _ _ _)⟩) hch' hone (by omega) (by omega) ?_
  intro w2 hw2
  have i7':=Inv.lk hw2 i7
  have hw2g:w2.heap[w'.heap.size+5]? =some (.cells cs'.reverse.toArray 116 (0,0)):=by rw [hw2.heap];exact hnew
  rw [show cs'.length=vs.length+1 from hcl']
  refine app11 q6 q7 G.mb (w'.heap.size+5) 0 vs.length (vs.length+1) tf ku yf cu w2 _ Post.ends (by rw [i7'.cell (L.mbox h6),L.mb];rfl) (by rw [i7'.cell (L.I h7)];rfl) (by simp [World.cell?,hw2g,hxr]) (Nat.le_refl _) (by omega) ?_
  intro w3 hw3
  have i8:=Inv.lk hw3 i7'
  have hap:=qbr (n:=n) _ m w3 f al k (.iface tf yf) (tl1 (w'.heap.size+5) 0 (vs.length+1)) vs.length (vs.length+1-1) ku cu i8 hxf ?_ (hk.mono L)
  ·rw [L.mb]at hap;exact hap
  ·cases al with
   |nil=>
    left
    have h0:vs.length=0:=by rw [←hal];rfl
    exact⟨rfl,tl1 (w'.heap.size+5) 0 (vs.length+1),vs.length+1-1,by rw [h0]⟩
   |cons a2 al2=>
    right
    have hgl:w'.heap.size+5=(((((w'.alloc (.cells #[bp G.mb] 107)).alloc (.cells #[.slice (tl1 g o cap) 0 (cap-1)] 426)).alloc (.cells #[.pointer pf] 378)).alloc (.cells #[.pointer (some ⟨w.heap.size,0,none⟩)] 470)).alloc (.cells #[.func (.func 372) #[] #[bp q6,bp q7]] 450)).heap.size:=hsz.symm
    have hv0:vs.length+1≠1:=by rw [←hal];simp
    refine⟨w'.heap.size+5,1,vs.length,cs'.reverse.toArray,by rw [hal,tl1,if_neg hv0];simp,by simp,by omega,by omega,by rw [hw3.heap];exact hw2g,?_,?_,?_,?_⟩
    ·intro hmem
     have:=i6.ml hmem
     omega
    ·rw [hgl];exact i6.fresh (Nat.le_refl _)
    ·intro hF
     have:=(i6.ff hF).2
     omega
    ·intro j u hu
     have hj:j+1<(Value.iface tf yf::xr).length:=by
      rw [←hvr.1];simp;have:=(List.getElem?_eq_some_iff.1 hu).1;simpa using this
     refine⟨(Value.iface tf yf::xr)[j+1],by rw [hxr];simp [Nat.add_comm 1 j],?_⟩
     exact(hvr.2 (j+1) u _ (by simpa using hu) (List.getElem?_eq_getElem hj)).mono x6.le
 |cons sh e1 r y1 xs' hf hl=>
  obtain⟨k1,c1,rfl,eg1⟩:=hf.isF
  have hcap2:xs'.length+2≤cap:=by simp at hcap';omega
  have ht:tl1 g o cap=some ⟨g,o+1,none⟩:=by unfold tl1;rw [if_neg (by omega)]
  have hnx:Sc.next S (.ret v (.app vs (e1::r) env::k)) m=(.ev e1 env (.app (vs++[v]) r env::k),m):=rfl
  rw [qan hnx rfl]at he
  have i6:=i1'.alloc5 (.cells #[bp G.mb] 107) (.cells #[.slice (some ⟨g,o+1,none⟩) (xs'.length+1) (cap-1)] 426) (.cells #[.pointer pf] 378) (.cells #[.pointer (some ⟨w.heap.size,0,none⟩)] 470) (.cells #[.func (.func 372) #[] #[bp q6,bp q7]] 450)
  have x6:=i1'.x5 (.cells #[bp G.mb] 107) (.cells #[.slice (some ⟨g,o+1,none⟩) (xs'.length+1) (cap-1)] 426) (.cells #[.pointer pf] 378) (.cells #[.pointer (some ⟨w.heap.size,0,none⟩)] 470) (.cells #[.func (.func 372) #[] #[bp q6,bp q7]] 450)
  have L:=x1.le.trans x6.le
  have U:=x1.up.trans x6.up
  have hrow2:∀j z,(Value.func (.func k1) #[] c1::xs')[j]? =some z→arr[o+1+j]? =some z:=fun j z hz=>by
   have:=hrow (j+1) z (by simpa using hz)
   rw [show o+1+j=o+(j+1)from by omega];exact this
  rw [ht]
  refine qev G.mb g (o+1) xs'.length (cap-1) k1 c1 pf (some ⟨w.heap.size,0,none⟩) 372 #[bp q6,bp q7] w' _ eg1 Post.ends (by rw [i1'.cell (x1.le.I hg)];exact hrow2 0 _ rfl) ?_
  intro w2 hw2
  refine Calls.mono (ihe _ m w2 sh e1 env (.app (vs++[v]) r env::k) k1 396 c1 _ pf (Inv.lk hw2 i6) (hf.mono L) (hn.mono L) (hs.mono L)
   (.app sh (vs++[v]) r env k _ _ _ _ _ q6 q7 (.slice (some ⟨g,o+1,none⟩) (xs'.length+1) (cap-1)) (.func (.func k1) #[] c1) (.func (.func ku) #[] cu) xs' pf (some ⟨w.heap.size,0,none⟩) ?_ ?_ ?_ ?_ ?_ (L.mbox h6) (L.I h7) (by simp at hb⊢;omega) ?_ (hl.mono L) ?_ (hn.mono L) (hs.mono L) (hk.mono L)) he) (fun e w p=>Post.step hnx rfl U p)
  ·show _=some (Obj.cells #[bp G.mb] 107 (0,0))
   rw [qae _ (by omega),qae _ (by omega),qae _ (by omega),qae _ (by omega)];exact Gh.add_at _ _ _
  ·rw [qae _ (by omega),qae _ (by omega),qae _ (by omega)];exact Gh.add_at _ _ _
  ·rw [qae _ (by omega),qae _ (by omega)];exact Gh.add_at _ _ _
  ·rw [qae _ (by omega)];exact Gh.add_at _ _ _
  ·exact Gh.add_at _ _ _
  ·exact⟨g,o+1,cap-1,arr,rfl,L.I hg,by simp;omega,by omega,hrow2⟩
  ·rw [List.reverse_append];exact hc'.mono x6.le
end
end
end Go.Proofs.YtldaocpojcfljaaGreatDoor
