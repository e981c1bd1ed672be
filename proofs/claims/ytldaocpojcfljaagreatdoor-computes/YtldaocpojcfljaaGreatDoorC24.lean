import Derived.Test.YtldaocpojcfljaaGreatDoorC23
set_option maxRecDepth 100000
set_option maxHeartbeats 4000000
namespace Go.Proofs.YtldaocpojcfljaaGreatDoor
open Tryz hiding parts
open Go.RowKit Go.Shelf
section
open Sc
theorem qhh {w:World} {lo n sc:Nat} {sa:Option Addr} {xs:List Value} (h:w.ownsRow lo 116 1 (.slice sa n sc) n xs):
  n=xs.length∧(xs=[]∨∃(g:Nat) (cur:Array Value),sa=some ⟨g,0,none⟩∧lo≤g∧w.heap[g]? =some (.cells cur 116 (0,0))∧xs.length≤sc∧∀(j:Nat) (x:Value),xs[j]? =some x→cur[j]? =some x):=by
 have h1:n=xs.length:=by have:=h.1;omega
 refine⟨h1,?_⟩
 rcases h.2 with⟨_,h0⟩|⟨g,cap,cur,hv,hb,hg,hn,hm,hs,ht⟩
 ·left;subst h0;exact List.eq_nil_of_length_eq_zero h1.symm
 ·right
  cases hv
  refine⟨g,cur,rfl,hb,hg,by omega,fun j x hj=>?_⟩
  rw [←ht,List.getElem?_take]at hj
  split at hj
  ·simpa using hj
  ·cases hj
theorem qfj {H:Gh} {w w':World} (hw:Lk (w.alloc (.cells #[.slice none 0 0] 184)) w'):RowW H w.heap.size (w.heap.size+1) [] w':=
 ⟨none,0,0,[],by rw [hw.heap];exact heap_alloc_new _ _,⟨rfl,.inl ⟨rfl,rfl⟩⟩,⟨rfl,fun i v x h=>by simp at h⟩,by rw [hw.heap];simp⟩
theorem qj3 {S:Sub} (m:Mc) (H:Gh) (w:World) (v u:Vl) (x y:Value) (r:Nat) (hr:H.mbox r) (i:Inv H S m w) (hv:VRep H v x) (hu:VRep H u y):Calls prog 208 (#[x,y]++#[bp r]) w (WorkOk H S (value S m .append [v,u])):=by
 obtain⟨t,x',rfl⟩:=hv.form
 obtain⟨t',y',rfl⟩:=hu.form
 refine qti r t t' x' y' w _ (fun e w h=>h.ends) fun w' hw=>?_
 have i':Inv H S m w':=Inv.lk hw (i.below ((Below.refl _ _).alloc (Nat.le_refl _) _))
 have hL:=i.looses
 refine Calls.mono (qhu eg209 (fun m w t0 y0 acc v i hrow hal hv=>qqo i hr hL (Nat.lt_succ_self _) hrow hal hv) v m _ w' i' hv (qfj hw)) ?_
 rintro e w2 (⟨l,m',h3,rfl,i2,⟨sa,n,sc,xs,hc,ho,hvs,hlo⟩,hst⟩|⟨vd,m',h3,rfl,hcn⟩)
 ·refine .inl ⟨sa,n,sc,rfl,by simp [World.cell?,hc],fun w3 hw3=>?_⟩
  have hsl:(m'.steps:Int)≤S.fuel:=i2.sl.1
  have hs2:S.fuel≤20000:=i2.sl.2
  obtain⟨rfl,hrow⟩:=qhh ho
  have hlx:=hvs.1
  refine Calls.mono (qc9 H S m' w3 sa sc l xs u (.iface t' y') (Inv.lk hw3 i2) hvs hu ?_ (by omega)) ?_
  ·rcases hrow with h|⟨g,cur,rfl,_,hg,_,hx⟩
   ·exact .inl h
   ·refine .inr ⟨g,0,rfl,fun j hj=>?_⟩
    have:=hx j xs[j] (List.getElem?_eq_getElem hj)
    simp [World.cell?,hw3.heap,hg,this]
  ·rintro e w4 ⟨L,z,rfl,hx,hi,hz,_⟩
   exact .inl ⟨L,_,_,z,by simp [value,h3],rfl,hx.up,hi,hz⟩
 ·exact .inr ⟨_,rfl,.inr ⟨vd,m',by simp [value,h3],rfl,hcn⟩⟩
theorem qj2 (g o cap q mb b ku t1:Nat) (y1:Value) (cu:Array Value) (w:World) (Q:Ending→World→Prop)
  (hQ:∀e w,Q e w→(∃v,e=.returned v)∨(∃ps,e=.panicked ps))
  (h0:w.cell? ⟨g,o,none⟩=some (.iface 281 (.pointer (some ⟨b,0,none⟩)))) (h1:w.cell? ⟨g,o+1,none⟩=some (.iface t1 y1))
  (hE:∀w',Lk (w.alloc (.cells #[.slice none 0 0] 184)) w'→Calls prog 206 #[.iface t1 y1,.func (.func 282) #[] #[.pointer (some ⟨q,0,none⟩),.pointer (some ⟨w.heap.size,0,none⟩)]] w' fun e w2=>(∃sa n sc,e=.returned (.tuple #[])∧w2.cell? ⟨w.heap.size,0,none⟩=some (.slice sa n sc)∧w2.cell? ⟨q,0,none⟩=some (.pointer (some ⟨mb,0,none⟩))∧∀w3,Lk w2 w3→Calls prog 283 #[.pointer (some ⟨mb,0,none⟩),.iface 281 (.pointer (some ⟨b,0,none⟩)),.slice sa n sc,.func (.func ku) #[] cu] w3 Q)∨(∃ps,e=.panicked ps∧Q e w2)):
  Calls prog 280 #[.slice (some ⟨g,o,none⟩) 2 cap,.func (.func ku) #[] cu,.pointer (some ⟨q,0,none⟩)] w Q:=by
 have HE:=hZ hE
 have HQ:=hZ hQ
 have HM:=hZ (qao (some ⟨g,o,none⟩) 2 cap w (by omega))
 have HA:=hZ (fun w=>qb0 b w)
 have l1:=qac h0
 have l2:=qac h1
 clear hE hQ
 go_enter func280,ntmps280
 go_wp2_with (first|(go_at_call 258;refine HM.out.mono ?_;rintro e w2 ⟨rfl,hww⟩;obtain rfl:=hww.symm)|(go_at_call 281;refine(HA.out _).mono ?_;rintro e w2 ⟨rfl,hww⟩;obtain rfl:=hww.symm)|(go_at_call 206;refine(HE.out _ (by exact⟨rfl,rfl,rfl,rfl⟩)).mono ?_;rintro e w2 (⟨sa,n,sc,rfl,hc,hc2,hq⟩|⟨ps,rfl,hq⟩);all_goals have HK:=hZ hq;clear hq;refine Hid.out ?_))
 ·refine hZ ?_
  go_wp2_with (go_at_call 283;refine(HK.out _ (by exact⟨rfl,rfl,rfl,rfl⟩)).mono ?_;intro e w2 hq;rcases HQ.out _ _ hq with⟨v,rfl⟩|⟨ps,rfl⟩)
  ·go_wp2
   exact hq
  ·exact⟨rfl,hq⟩
 ·exact⟨rfl,HK.out⟩
theorem qia (a:Option Addr) (n cap q:Nat) (ku:Nat) (cu:Array Value) (w:World) (hn:n≤1000000) (hne:n≠2):
  Calls prog 280 #[.slice a n cap,.func (.func ku) #[] cu,.pointer (some ⟨q,0,none⟩)] w fun e w'=>e=.panicked (stopP (stopV 7))∧∃o,w'=w.alloc o:=by
 have HM:=hZ (qa4 a n 2 cap w hn hne)
 go_enter func280,ntmps280
 go_wp2_with (go_at_call 258;refine HM.out.mono ?_;rintro e w2 ⟨rfl,o,rfl⟩)
 exact⟨rfl,rfl,o,rfl⟩
theorem qh9 (g o cap q ku t0:Nat) (y0:Value) (cu:Array Value) (w:World)
  (h0:w.cell? ⟨g,o,none⟩=some (.iface t0 y0)) (ht:t0≠281):
  Calls prog 280 #[.slice (some ⟨g,o,none⟩) 2 cap,.func (.func ku) #[] cu,.pointer (some ⟨q,0,none⟩)] w fun e w'=>e=.panicked (stopP (stopV 6))∧∃o,w'=w.alloc o:=by
 have HM:=hZ (qao (some ⟨g,o,none⟩) 2 cap w (by omega))
 have HA:=hZ (fun w=>qcq t0 y0 w ht)
 clear ht
 go_enter func280,ntmps280
 go_wp2_with (first|(go_at_call 258;refine HM.out.mono ?_;rintro e w2 ⟨rfl,hww⟩;obtain rfl:=hww.symm)|(go_at_call 281;refine(HA.out _).mono ?_;rintro e w2 ⟨rfl,o',rfl⟩))
 exact⟨rfl,rfl,o',rfl⟩
theorem qp3 (a:Option Addr) (n cap q:Nat) (ku:Nat) (cu:Array Value) (w:World) (hn:n≤1000000) (hne:n≠1):
  Calls prog 284 #[.slice a n cap,.func (.func ku) #[] cu,.pointer (some ⟨q,0,none⟩)] w fun e w'=>e=.panicked (stopP (stopV 7))∧∃o,w'=w.alloc o:=by
 have HM:=hZ (qa4 a n 1 cap w hn hne)
 go_enter func284,ntmps284
 go_wp2_with (go_at_call 258;refine HM.out.mono ?_;rintro e w2 ⟨rfl,o,rfl⟩)
 exact⟨rfl,rfl,o,rfl⟩
theorem qp2 (g o cap q ku t0:Nat) (y0:Value) (cu:Array Value) (w:World)
  (h0:w.cell? ⟨g,o,none⟩=some (.iface t0 y0)) (ht:t0≠281):
  Calls prog 284 #[.slice (some ⟨g,o,none⟩) 1 cap,.func (.func ku) #[] cu,.pointer (some ⟨q,0,none⟩)] w fun e w'=>e=.panicked (stopP (stopV 6))∧∃o,w'=w.alloc o:=by
 have HM:=hZ (qao (some ⟨g,o,none⟩) 1 cap w (by omega))
 have HA:=hZ (fun w=>qcq t0 y0 w ht)
 clear ht
 go_enter func284,ntmps284
 go_wp2_with (first|(go_at_call 258;refine HM.out.mono ?_;rintro e w2 ⟨rfl,hww⟩;obtain rfl:=hww.symm)|(go_at_call 281;refine(HA.out _).mono ?_;rintro e w2 ⟨rfl,o',rfl⟩))
 exact⟨rfl,rfl,o',rfl⟩
theorem qp1 (g o cap q mb cb b ku:Nat) (t:Int) (cu:Array Value) (w:World)
  (h0:w.cell? ⟨g,o,none⟩=some (.iface 281 (.pointer (some ⟨b,0,none⟩)))) (hq1:w.cell? ⟨q,0,none⟩=some (.pointer (some ⟨mb,0,none⟩))) (hq2:w.cell? ⟨mb,1,none⟩=some (.pointer (some ⟨cb,0,none⟩)))
  (hM:Mt cb t t 11 w) (ht0:0≤t) (hm:t≤1000000):
  Calls prog 284 #[.slice (some ⟨g,o,none⟩) 1 cap,.func (.func ku) #[] cu,.pointer (some ⟨q,0,none⟩)] w fun e w'=>e=.panicked (stopP (stopV 11))∧Below w.heap.size (w.setCell ⟨cb,0,none⟩ (.int .i64 t)) w':=by
 have HM:=hZ (qao (some ⟨g,o,none⟩) 1 cap w (by omega))
 have HA:=hZ (fun w=>qb0 b w)
 have HT:=hZ (qa1 cb t t 11 1 w hM ht0 (by omega) (by omega) (by omega) hm)
 clear hM
 go_enter func284,ntmps284
 go_wp2_with (first|(go_at_call 258;refine HM.out.mono ?_;rintro e w2 ⟨rfl,hww⟩;obtain rfl:=hww.symm)|(go_at_call 281;refine(HA.out _).mono ?_;rintro e w2 ⟨rfl,hww⟩;obtain rfl:=hww.symm)|(go_at_call 200;refine HT.out.mono ?_;rintro e w2 ⟨rfl,hb⟩))
 exact⟨rfl,rfl,hb⟩
theorem qie (a:Option Addr) (n cap q:Nat) (ku:Nat) (cu:Array Value) (w:World) (hn:n≤1000000) (hne:n≠3):
  Calls prog 286 #[.slice a n cap,.func (.func ku) #[] cu,.pointer (some ⟨q,0,none⟩)] w fun e w'=>e=.panicked (stopP (stopV 7))∧∃o,w'=w.alloc o:=by
 have HM:=hZ (qa4 a n 3 cap w hn hne)
 go_enter func286,ntmps286
 go_wp2_with (go_at_call 258;refine HM.out.mono ?_;rintro e w2 ⟨rfl,o,rfl⟩)
 exact⟨rfl,rfl,o,rfl⟩
theorem qid (g o cap q ku t0 t1 t2:Nat) (y0 y1 y2:Value) (cu:Array Value) (w:World)
  (h0:w.cell? ⟨g,o,none⟩=some (.iface t0 y0)) (h1:w.cell? ⟨g,o+1,none⟩=some (.iface t1 y1)) (h2:w.cell? ⟨g,o+2,none⟩=some (.iface t2 y2))
  (ht:¬(t0=281∧t1=281∧t2=281)) (hp:(t0=281→∃b,y0=.pointer (some ⟨b,0,none⟩))∧(t1=281→∃b,y1=.pointer (some ⟨b,0,none⟩))):
  Calls prog 286 #[.slice (some ⟨g,o,none⟩) 3 cap,.func (.func ku) #[] cu,.pointer (some ⟨q,0,none⟩)] w fun e w'=>e=.panicked (stopP (stopV 6))∧∃o,w'=w.alloc o:=by
 have HM:=hZ (qao (some ⟨g,o,none⟩) 3 cap w (by omega))
 by_cases e0:t0=281
 ·obtain⟨b0,rfl⟩:=hp.1 e0
  subst e0
  have HA:=hZ (fun w=>qb0 b0 w)
  by_cases e1:t1=281
  ·obtain⟨b1,rfl⟩:=hp.2 e1
   subst e1
   have HB:=hZ (fun w=>qb0 b1 w)
   have HC:=hZ (fun w=>qcq t2 y2 w fun e=>ht ⟨rfl,rfl,e⟩)
   clear ht hp
   go_enter func286,ntmps286
   go_wp2_with (first|(go_at_call 258;refine HM.out.mono ?_;rintro e w2 ⟨rfl,hww⟩;obtain rfl:=hww.symm)|(go_at_call 281;refine(HA.out _).mono ?_;rintro e w2 ⟨rfl,hww⟩;obtain rfl:=hww.symm;refine Hid.out ?_))
   refine hZ ?_
   go_wp2_with (go_at_call 281;refine(HB.out _).mono ?_;rintro e w2 ⟨rfl,hww⟩;obtain rfl:=hww.symm;refine Hid.out ?_)
   refine hZ ?_
   go_wp2_with (go_at_call 281;refine(HC.out _).mono ?_;rintro e w2 ⟨rfl,o',rfl⟩)
   exact⟨rfl,rfl,o',rfl⟩
  ·have HC:=hZ (fun w=>qcq t1 y1 w e1)
   clear ht hp e1
   go_enter func286,ntmps286
   go_wp2_with (first|(go_at_call 258;refine HM.out.mono ?_;rintro e w2 ⟨rfl,hww⟩;obtain rfl:=hww.symm)|(go_at_call 281;refine(HA.out _).mono ?_;rintro e w2 ⟨rfl,hww⟩;obtain rfl:=hww.symm;refine Hid.out ?_))
   refine hZ ?_
   go_wp2_with (go_at_call 281;refine(HC.out _).mono ?_;rintro e w2 ⟨rfl,o',rfl⟩)
   exact⟨rfl,rfl,o',rfl⟩
 ·have HC:=hZ (fun w=>qcq t0 y0 w e0)
  clear ht hp e0
  go_enter func286,ntmps286
  go_wp2_with (first|(go_at_call 258;refine HM.out.mono ?_;rintro e w2 ⟨rfl,hww⟩;obtain rfl:=hww.symm)|(go_at_call 281;refine(HC.out _).mono ?_;rintro e w2 ⟨rfl,o',rfl⟩))
  exact⟨rfl,rfl,o',rfl⟩
theorem qk4 (g o cap q mb b0 b1 b2 ku:Nat) (cu:Array Value) (w:World) (Q:Ending→World→Prop)
  (hQ:∀e w,Q e w→(∃v,e=.returned v)∨(∃ps,e=.panicked ps))
  (h0:w.cell? ⟨g,o,none⟩=some (.iface 281 (.pointer (some ⟨b0,0,none⟩)))) (h1:w.cell? ⟨g,o+1,none⟩=some (.iface 281 (.pointer (some ⟨b1,0,none⟩)))) (h2:w.cell? ⟨g,o+2,none⟩=some (.iface 281 (.pointer (some ⟨b2,0,none⟩))))
  (hq:w.cell? ⟨q,0,none⟩=some (.pointer (some ⟨mb,0,none⟩)))
  (hK:∀w',Lk w w'→Calls prog 287 #[.pointer (some ⟨mb,0,none⟩),.pointer (some ⟨b0,0,none⟩),.pointer (some ⟨b1,0,none⟩),.pointer (some ⟨b2,0,none⟩),.func (.func ku) #[] cu] w' Q):
  Calls prog 286 #[.slice (some ⟨g,o,none⟩) 3 cap,.func (.func ku) #[] cu,.pointer (some ⟨q,0,none⟩)] w Q:=by
 have HK:=hZ hK
 have HQ:=hZ hQ
 have HM:=hZ (qao (some ⟨g,o,none⟩) 3 cap w (by omega))
 have HA:=hZ (fun w=>qb0 b0 w)
 have HB:=hZ (fun w=>qb0 b1 w)
 have HC:=hZ (fun w=>qb0 b2 w)
 clear hK hQ
 go_enter func286,ntmps286
 go_wp2_with (first|(go_at_call 258;refine HM.out.mono ?_;rintro e w2 ⟨rfl,hww⟩;obtain rfl:=hww.symm)|(go_at_call 281;refine(HA.out _).mono ?_;rintro e w2 ⟨rfl,hww⟩;obtain rfl:=hww.symm;refine Hid.out ?_))
 refine hZ ?_
 go_wp2_with (go_at_call 281;refine(HB.out _).mono ?_;rintro e w2 ⟨rfl,hww⟩;obtain rfl:=hww.symm;refine Hid.out ?_)
 refine hZ ?_
 go_wp2_with (go_at_call 281;refine(HC.out _).mono ?_;rintro e w2 ⟨rfl,hww⟩;obtain rfl:=hww.symm;refine Hid.out ?_)
 refine hZ ?_
 go_wp2_with (go_at_call 287;refine(HK.out _ (by exact⟨rfl,rfl,rfl,rfl⟩)).mono ?_;intro e w2 hq;rcases HQ.out _ _ hq with⟨v,rfl⟩|⟨ps,rfl⟩)
 ·go_wp2
  exact hq
 ·exact⟨rfl,hq⟩
end
section
open Sc
theorem qnd (mb b0 b1 b2 ku:Nat) (cu:Array Value) (w:World) (Q:Ending→World→Prop)
  (hQ:∀e w,Q e w→(∃v,e=.returned v)∨(∃ps,e=.panicked ps))
  (hK:∀w',Lk (((((w.alloc (.cells #[.pointer (some ⟨mb,0,none⟩)] 107)).alloc (.cells #[.pointer (some ⟨b0,0,none⟩)] 281)).alloc (.cells #[.pointer (some ⟨b1,0,none⟩)] 281)).alloc (.cells #[.pointer (some ⟨b2,0,none⟩)] 281)).alloc (.cells #[.func (.func ku) #[] cu] 295)) w'→
   Calls prog 283 #[.pointer (some ⟨mb,0,none⟩),.iface 281 (.pointer (some ⟨b0,0,none⟩)),.slice none 0 0,.func (.func 315) #[] #[.pointer (some ⟨w.heap.size,0,none⟩),.pointer (some ⟨w.heap.size+1,0,none⟩),.pointer (some ⟨w.heap.size+3,0,none⟩),.pointer (some ⟨w.heap.size+2,0,none⟩),.pointer (some ⟨w.heap.size+4,0,none⟩)]] w' Q):
  Calls prog 287 #[.pointer (some ⟨mb,0,none⟩),.pointer (some ⟨b0,0,none⟩),.pointer (some ⟨b1,0,none⟩),.pointer (some ⟨b2,0,none⟩),.func (.func ku) #[] cu] w Q:=by
 have HK:=hZ hK
 have HQ:=hZ hQ
 clear hK hQ
 go_enter func287,ntmps287
 go_wp2_with (go_at_call 283;refine(HK.out _ (by exact⟨rfl,rfl,rfl,rfl⟩)).mono ?_;intro e w2 hq;rcases HQ.out _ _ hq with⟨v,rfl⟩|⟨ps,rfl⟩)
 ·go_wp2
  exact hq
 ·exact⟨rfl,hq⟩
theorem qm0 (mb ku:Nat) (wp:Option Addr) (cu:Array Value) (w:World) (h:w.cell? ⟨mb,4,none⟩=some (.pointer wp)):
  Calls prog 285 #[.pointer (some ⟨mb,0,none⟩),.func (.func ku) #[] cu] w fun e w'=>e=.returned (.pointer (some ⟨w.heap.size+3,0,none⟩))∧
   Lk ((((w.alloc (.cells #[.pointer (some ⟨mb,0,none⟩)] 107)).alloc (.cells #[.func (.func ku) #[] cu] 295)).alloc (.cells #[.pointer wp] 117)).alloc (.cells #[.func (.func 312) #[] #[.pointer (some ⟨w.heap.size,0,none⟩),.pointer (some ⟨w.heap.size+2,0,none⟩),.pointer (some ⟨w.heap.size+1,0,none⟩)]] 300)) w':=by
 have l:=qac h
 go_enter func285,ntmps285
 go_wp2
 go_ret
 exact⟨rfl,rfl,rfl,rfl,rfl⟩
theorem qs8 (g o cap q mb cb b ku:Nat) (t mo:Int) (cu:Array Value) (w:World) (Q:Ending→World→Prop)
  (hQ:∀e w,Q e w→(∃v,e=.returned v)∨(∃ps,e=.panicked ps))
  (hS:∀v w',Q (.returned v) w'→w'.cell? ⟨q,0,none⟩=some (.pointer (some ⟨mb,0,none⟩)))
  (h0:w.cell? ⟨g,o,none⟩=some (.iface 281 (.pointer (some ⟨b,0,none⟩)))) (hq1:w.cell? ⟨q,0,none⟩=some (.pointer (some ⟨mb,0,none⟩))) (hq2:w.cell? ⟨mb,1,none⟩=some (.pointer (some ⟨cb,0,none⟩)))
  (hM:Mt cb t mo 11 w) (ht0:0≤t) (ht:t+1≤mo) (hm:mo≤1000000) (hqc:q≠cb)
  (hC:∀w',Lk (w.setCell ⟨cb,0,none⟩ (.int .i64 (t+1))) w'→Calls prog 285 #[.pointer (some ⟨mb,0,none⟩),.func (.func ku) #[] cu] w' fun e w1=>∃n,e=.returned (.pointer (some ⟨n,0,none⟩))∧w1.cell? ⟨q,0,none⟩=some (.pointer (some ⟨mb,0,none⟩))∧
   ∀w2,Lk (w1.alloc (.cells #[.iface 281 (.pointer (some ⟨n,0,none⟩))] 116)) w2→Calls prog 283 #[.pointer (some ⟨mb,0,none⟩),.iface 281 (.pointer (some ⟨b,0,none⟩)),.slice (some ⟨w1.heap.size,0,none⟩) 1 1,.func (.func ku) #[] cu] w2 Q):
  Calls prog 284 #[.slice (some ⟨g,o,none⟩) 1 cap,.func (.func ku) #[] cu,.pointer (some ⟨q,0,none⟩)] w Q:=by
 have HC:=hZ hC
 have HQ:=hZ hQ
 have HS:=hZ hS
 have HM:=hZ (qao (some ⟨g,o,none⟩) 1 cap w (by omega))
 have HA:=hZ (fun w=>qb0 b w)
 have HT:=hZ (qba cb t mo 11 1 w hM ht0 ht (by omega) hm)
 have hq3:∀k,((w.setCell ⟨cb,0,none⟩ (.int .i64 (t+1))).drewN k).cell? ⟨q,0,none⟩=some (.pointer (some ⟨mb,0,none⟩)):=fun k=>by rw [qa6,qag hqc];exact hq1
 clear hC hQ hS hM
 go_enter func284,ntmps284
 go_wp2_with (first|(go_at_call 258;refine HM.out.mono ?_;rintro e w2 ⟨rfl,hww⟩;obtain rfl:=hww.symm)|(go_at_call 281;refine(HA.out _).mono ?_;rintro e w2 ⟨rfl,hww⟩;obtain rfl:=hww.symm)|(go_at_call 200;refine HT.out.mono ?_;rintro e w2 ⟨rfl,k,rfl⟩;refine Hid.out ?_))
 refine hZ ?_
 go_wp2_with (fail)
 have hq4:=hq3 k
 have HL:Hid (Lk (w.setCell ⟨cb,0,none⟩ (.int .i64 (t+1))) ((w.setCell ⟨cb,0,none⟩ (.int .i64 (t+1))).drewN k)):=⟨rfl,rfl,rfl,rfl⟩
 generalize (w.setCell ⟨cb,0,none⟩ (.int .i64 (t+1))).drewN k=W at hq4 HL⊢
 have HL2:Hid (∀w',Lk W w'→Lk (w.setCell ⟨cb,0,none⟩ (.int .i64 (t+1))) w'):=fun w' h=>⟨h.1.trans HL.out.1,h.2.trans HL.out.2,h.3.trans HL.out.3,h.4.trans HL.out.4⟩
 clear hq3 HL HM HA HT h0 hq2
 go_region_held2 (fun w'=>w'.cell? ⟨q,0,none⟩=some (.pointer (some ⟨mb,0,none⟩))) (first|(exact HS.out _ _ hq)|(exact HC1.out.1)|go_keep)
  (first|(go_at_call 285;refine(HC.out _ (HL2.out _ (by exact⟨rfl,rfl,rfl,rfl⟩))).mono ?_;rintro e w1 ⟨n,rfl,hc⟩;have HC1:=hZ hc;clear hc)|(go_at_call 283;refine(HC1.out.2 _ (by exact⟨rfl,rfl,rfl,rfl⟩)).mono ?_;intro e w3 hq;rcases HQ.out _ _ hq with⟨v,rfl⟩|⟨ps,rfl⟩;rotate_left;(exact⟨rfl,hq⟩)))
 all_goals(go_wp2;exact hq)
end
section
open Sc
theorem LRow.len {G:Gh} {h:Array Obj} {sa:Option Addr} {sn sc:Nat} {al:List Vl} (hr:LRow G h (.slice sa sn sc) al):sn=al.length∧sn≤1000000:=by
 rcases hr with⟨rfl,a,cap,h⟩|⟨g,o,cap,arr,h,_,_,h2,_⟩
 ·cases h;exact⟨rfl,by omega⟩
 ·cases h;exact⟨rfl,h2⟩
theorem LRow.three {G:Gh} {h:Array Obj} {sa:Option Addr} {sc:Nat} {v u y:Vl} (hr:LRow G h (.slice sa 3 sc) [v,u,y]):∃(g o:Nat) (arr:Array Value) (x0 x1 x2:Value),sa=some ⟨g,o,none⟩∧h[g]? =some (.cells arr 116 (0,0))∧arr[o]? =some x0∧VRep G v x0∧arr[o+1]? =some x1∧VRep G u x1∧arr[o+2]? =some x2∧VRep G y x2:=by
 rcases hr with⟨h,_⟩|⟨g,o,cap,arr,e,hne,hc1,hc2,hg,hgm,hgi,hgf,hx⟩
 ·simp at h
 ·cases e
  obtain⟨x,h1,h2⟩:=hx 0 v rfl
  obtain⟨y,h3,h4⟩:=hx 1 u rfl
  obtain⟨z,h5,h6⟩:=hx 2 _ rfl
  exact⟨g,o,arr,x,y,z,rfl,hg,h1,h2,h3,h4,h5,h6⟩
theorem qrr {H:Gh} {w:World} {c lo n sc:Nat} {sa:Option Addr} {xs:List Value} {l:List Vl} (hL:Loose H c) (hcl:c<lo) (ho:w.ownsRow lo 116 1 (.slice sa n sc) n xs) (hvs:VsRep H l xs) (hn:l.length≤1000000):LRow H w.heap (.slice sa n sc) l:=by
 obtain⟨hn1,hrow⟩:=qhh ho
 have hl:=hvs.1
 rcases hrow with h|⟨g,cur,rfl,hlo,hg,hc,hx⟩
 ·subst h;simp at hl hn1;subst hn1;subst hl;exact .inl ⟨rfl,sa,sc,rfl⟩
 ·by_cases hne:l=[]
  ·subst hne;simp at hl;have:n=0:=by omega
   subst this;exact .inl ⟨rfl,_,sc,rfl⟩
  ·obtain⟨z1,z2,z3⟩:=hL g (by omega)
   refine .inr ⟨g,0,sc,cur,by rw [hn1,hl],hne,by omega,hn,hg,z2,z1,z3,fun j v hj=>?_⟩
   have hjl:j<xs.length:=by rw [←hl];exact(List.getElem?_eq_some_iff.1 hj).1
   exact⟨xs[j],by simpa using hx j xs[j] (List.getElem?_eq_getElem hjl),hvs.2 j v xs[j] hj (List.getElem?_eq_getElem hjl)⟩
theorem qj1 {S:Sub} {n:Nat} (G:Gh) (m:Mc) (w:World) (al:List Vl) (k:List Fr) (q ku:Nat) (cu:Array Value) (sa:Option Addr) (sn sc:Nat)
  (i:Inv G S m w) (hq:G.mbox q) (hk:FRep G k (.func (.func ku) #[] cu)) (hr:LRow G w.heap (.slice sa sn sc) al):
  Calls prog 280 (#[.slice sa sn sc,.func (.func ku) #[] cu]++#[bp q]) w (PostS G S (n+1) (.ap (.prim .apply) al k) m):=by
 obtain⟨hsn,hs6⟩:=hr.len
 by_cases hlen:sn=2
 ·subst hlen
  obtain⟨v,u,rfl⟩:∃v u,al=[v,u]:=by
   match al,hsn with
   | [a,b],_=>exact⟨a,b,rfl⟩
  obtain⟨g,o,arr,x,y,rfl,hc1,hc2,hg,hgm,hgi,hx1,hv,hy1,hu⟩:=hr.two
  obtain⟨t,x',rfl⟩:=hv.form
  obtain⟨s,y',rfl⟩:=hu.form
  have c0:w.cell? ⟨g,o,none⟩=some (.iface t x'):=by simp only [World.cell?,hg];simpa using hx1
  have c1:w.cell? ⟨g,o+1,none⟩=some (.iface s y'):=by simp only [World.cell?,hg];simpa using hy1
  by_cases ht:t=281
  ·subst ht
   have hpi:isProc v=true:=by rw [hv.proc_iff];rfl
   have hcar:Sc.next S (.ap (.prim .apply) [v,u] k) m=(match membersOf S false u m with
     |(.error e,m)=>(.stop e,m)
     |(.ok a,m)=>applyTo S v a k m):=by
    show carry S (.prim .apply) [v,u] k m=_
    simp [carry,Pm.isList,Pm.kinds,Pm.grant,Kd.ok,hpi]
    rfl
   obtain⟨b,rfl⟩:∃b,x'=bp b:=by cases hv with|proc v b h=>exact⟨b,rfl⟩
   refine qj2 g o sc q G.mb b ku s y' cu w _ PostS.ends c0 c1 fun w' hw=>?_
   have i':Inv G S m w':=Inv.lk hw (i.below ((Below.refl _ _).alloc (Nat.le_refl _) _))
   have hL:=i.looses
   refine Calls.mono (qhu eg282 (fun m w t0 y0 acc v i hrow hal hv=>qqn i hq hL (Nat.lt_succ_self _) hrow hal hv) u m _ w' i' hu (qfj hw)) ?_
   rintro e w2 (⟨l,m',h3,rfl,i2,⟨sa',n',sc',xs,hc,ho,hvs,hlo⟩,hst⟩|⟨vd,m',h3,rfl,hcn⟩)
   ·rw [h3]at hcar
    refine .inl ⟨sa',n',sc',rfl,by simp [World.cell?,hc],by rw [i2.cell hq];rfl,fun w3 hw3=>?_⟩
    have hsl:(m'.steps:Int)≤S.fuel:=i2.sl.1
    have hs2:S.fuel≤20000:=i2.sl.2
    have hlr:LRow G w3.heap (.slice sa' n' sc') l:=by rw [hw3.heap];exact qrr hL (Nat.lt_succ_self _) ho hvs (by omega)
    exact Calls.mono (qbr (n:=n) G m' w3 v l k _ sa' n' sc' ku cu (Inv.lk hw3 i2) hv hlr hk) fun e w p=>Post.stepS hcar rfl (Gh.up.refl G) p
   ·rw [h3]at hcar
    exact .inr ⟨_,rfl,Post.stepS hcar rfl (Gh.up.refl _) (Post.now (.stop vd m' w2 hcn))⟩
  ·have hpi:isProc v=false:=by rw [hv.proc_iff];simpa using ht
   have hnx:Sc.next S (.ap (.prim .apply) [v,u] k) m=(.stop 6,m):=by
    show carry S (.prim .apply) [v,u] k m=_
    simp [carry,Pm.isList,Pm.kinds,Pm.grant,Kd.ok,hpi]
   refine Calls.mono (qh9 g o sc q ku t x' cu w c0 ht) ?_
   rintro e w' ⟨rfl,o',rfl⟩
   exact Post.stepS hnx rfl (Gh.up.refl G) (Post.now (.stop 6 _ _ (i.cntB (Nat.le_refl _) ((Below.refl _ _).alloc (Nat.le_refl _) _))))
 ·have hnx:Sc.next S (.ap (.prim .apply) al k) m=(.stop 7,m):=by
   show carry S (.prim .apply) al k m=_
   have:al.length≠2:=by omega
   simp [carry,Pm.isList,Pm.kinds,this]
  refine Calls.mono (qia sa sn sc q ku cu w hs6 hlen) ?_
  rintro e w' ⟨rfl,o',rfl⟩
  exact Post.stepS hnx rfl (Gh.up.refl G) (Post.now (.stop 7 _ _ (i.cntB (Nat.le_refl _) ((Below.refl _ _).alloc (Nat.le_refl _) _))))
theorem qm1 {S:Sub} {n:Nat} (G:Gh) (m:Mc) (w:World) (al:List Vl) (k:List Fr) (q ku:Nat) (cu:Array Value) (sa:Option Addr) (sn sc:Nat)
  (i:Inv G S m w) (hq:G.mbox q) (hk:FRep G k (.func (.func ku) #[] cu)) (hr:LRow G w.heap (.slice sa sn sc) al):
  Calls prog 286 (#[.slice sa sn sc,.func (.func ku) #[] cu]++#[bp q]) w (PostS G S (n+1) (.ap (.prim .wind) al k) m):=by
 obtain⟨hsn,hs6⟩:=hr.len
 by_cases hlen:sn=3
 ·subst hlen
  obtain⟨v,u,y,rfl⟩:∃v u y,al=[v,u,y]:=by
   match al,hsn with
   | [a,b,c],_=>exact⟨a,b,c,rfl⟩
  obtain⟨g,o,arr,x0,x1,x2,rfl,hg,hx0,hv,hx1,hu,hx2,hy⟩:=hr.three
  obtain⟨t0,y0,rfl⟩:=hv.form
  obtain⟨t1,y1,rfl⟩:=hu.form
  obtain⟨t2,y2,rfl⟩:=hy.form
  have c0:w.cell? ⟨g,o,none⟩=some (.iface t0 y0):=by simp only [World.cell?,hg];simpa using hx0
  have c1:w.cell? ⟨g,o+1,none⟩=some (.iface t1 y1):=by simp only [World.cell?,hg];simpa using hx1
  have c2:w.cell? ⟨g,o+2,none⟩=some (.iface t2 y2):=by simp only [World.cell?,hg];simpa using hx2
  have pb:∀{v:Vl} {t:Nat} {y:Value},VRep G v (.iface t y)→t=281→∃b,y=bp b∧QRep G v b:=fun h e=>by
   subst e;cases h with|proc v b h=>exact⟨b,rfl,h⟩
  by_cases ht:t0=281∧t1=281∧t2=281
  ·obtain⟨rfl,rfl,rfl⟩:=ht
   have p0:isProc v=true:=by rw [hv.proc_iff];rfl
   have p1:isProc u=true:=by rw [hu.proc_iff];rfl
   have p2:isProc y=true:=by rw [hy.proc_iff];rfl
   have hcar:Sc.next S (.ap (.prim .wind) [v,u,y] k) m=applyTo S v [] (.wind1 v u y::k) m:=by
    show carry S (.prim .wind) [v,u,y] k m=_
    simp [carry,Pm.isList,Pm.kinds,Pm.grant,Kd.ok,p0,p1,p2]
   obtain⟨b0,rfl,q0⟩:=pb hv rfl
   obtain⟨b1,rfl,q1⟩:=pb hu rfl
   obtain⟨b2,rfl,q2⟩:=pb hy rfl
   refine qk4 g o sc q G.mb b0 b1 b2 ku cu w _ PostS.ends c0 c1 c2 (by rw [i.cell hq];rfl) fun w' hw=>?_
   have i':=Inv.lk hw i
   refine qnd G.mb b0 b1 b2 ku cu w' _ PostS.ends fun w2 hw2=>?_
   have i5:=i'.alloc5 (.cells #[bp G.mb] 107) (.cells #[bp b0] 281) (.cells #[bp b1] 281) (.cells #[bp b2] 281) (.cells #[.func (.func ku) #[] cu] 295)
   have x5:=i'.x5 (.cells #[bp G.mb] 107) (.cells #[bp b0] 281) (.cells #[bp b1] 281) (.cells #[bp b2] 281) (.cells #[.func (.func ku) #[] cu] 295)
   have hf:FRep (((((G.add w'.heap.size (.cells #[bp G.mb] 107)).add (w'.heap.size+1) (.cells #[bp b0] 281)).add (w'.heap.size+2) (.cells #[bp b1] 281)).add (w'.heap.size+3) (.cells #[bp b2] 281)).add (w'.heap.size+4) (.cells #[.func (.func ku) #[] cu] 295)) (.wind1 v u y::k)
     (.func (.func 315) #[] #[bp w'.heap.size,bp (w'.heap.size+1),bp (w'.heap.size+3),bp (w'.heap.size+2),bp (w'.heap.size+4)]):=by
    refine .wind1 v u y k _ _ _ _ _ b0 b1 b2 (.func (.func ku) #[] cu) ?_ ?_ ?_ ?_ (Gh.add_at _ _ _) (q0.mono x5.le) (q1.mono x5.le) (q2.mono x5.le) (hk.mono x5.le)
    ·show Gh.I _ _=_
     rw [qae _ (by omega),qae _ (by omega),qae _ (by omega),qae _ (by omega)];exact Gh.add_at _ _ _
    ·rw [qae _ (by omega),qae _ (by omega),qae _ (by omega)];exact Gh.add_at _ _ _
    ·rw [qae _ (by omega)];exact Gh.add_at _ _ _
    ·rw [qae _ (by omega),qae _ (by omega)];exact Gh.add_at _ _ _
   have key:=qbr (n:=n) _ m w2 v [] (.wind1 v u y::k) _ none 0 0 315 _ (Inv.lk hw2 i5) (hv.mono x5.le) (.inl ⟨rfl,none,0,rfl⟩) hf
   exact Calls.mono key fun e w p=>Post.stepS hcar rfl x5.up p
  ·have hpi:(isProc v&&isProc u&&isProc y)=false:=by rw [hv.proc_iff,hu.proc_iff,hy.proc_iff];simpa [and_assoc]using ht
   have hnx:Sc.next S (.ap (.prim .wind) [v,u,y] k) m=(.stop 6,m):=by
    show carry S (.prim .wind) [v,u,y] k m=_
    simp only [carry,Pm.isList,Pm.kinds,Pm.grant,Kd.ok,List.zip_cons_cons,List.zip_nil_right,List.any_cons,List.any_nil,List.length_cons,List.length_nil]
    cases h1:isProc v <;> cases h2:isProc u <;> cases h3:isProc y <;> simp_all
   refine Calls.mono (qid g o sc q ku t0 t1 t2 y0 y1 y2 cu w c0 c1 c2 ht ⟨fun e=>(pb hv e).imp fun _ h=>h.1,fun e=>(pb hu e).imp fun _ h=>h.1⟩) ?_
   rintro e w' ⟨rfl,o',rfl⟩
   exact Post.stepS hnx rfl (Gh.up.refl G) (Post.now (.stop 6 _ _ (i.cntB (Nat.le_refl _) ((Below.refl _ _).alloc (Nat.le_refl _) _))))
 ·have hnx:Sc.next S (.ap (.prim .wind) al k) m=(.stop 7,m):=by
   show carry S (.prim .wind) al k m=_
   have:al.length≠3:=by omega
   simp [carry,Pm.isList,Pm.kinds,this]
  refine Calls.mono (qie sa sn sc q ku cu w hs6 hlen) ?_
  rintro e w' ⟨rfl,o',rfl⟩
  exact Post.stepS hnx rfl (Gh.up.refl G) (Post.now (.stop 7 _ _ (i.cntB (Nat.le_refl _) ((Below.refl _ _).alloc (Nat.le_refl _) _))))
theorem qh8 {S:Sub} {n:Nat} (G:Gh) (m:Mc) (w:World) (al:List Vl) (k:List Fr) (q ku:Nat) (cu:Array Value) (sa:Option Addr) (sn sc:Nat)
  (i:Inv G S m w) (hq:G.mbox q) (hk:FRep G k (.func (.func ku) #[] cu)) (hr:LRow G w.heap (.slice sa sn sc) al):
  Calls prog 284 (#[.slice sa sn sc,.func (.func ku) #[] cu]++#[bp q]) w (PostS G S (n+1) (.ap (.prim .callcc) al k) m):=by
 obtain⟨hsn,hs6⟩:=hr.len
 by_cases hlen:sn=1
 ·subst hlen
  obtain⟨v,rfl⟩:∃v,al=[v]:=by
   match al,hsn with
   | [a],_=>exact⟨a,rfl⟩
  obtain⟨g,o,arr,x,rfl,hc1,hc2,hg,hgm,hgi,hx1,hv⟩:=hr.one
  obtain⟨t,x',rfl⟩:=hv.form
  have c0:w.cell? ⟨g,o,none⟩=some (.iface t x'):=by simp only [World.cell?,hg];simpa using hx1
  have cq:w.cell? ⟨q,0,none⟩=some (.pointer (some ⟨G.mb,0,none⟩)):=by rw [i.cell hq];rfl
  have hcl:(m.cells:Int)≤S.quota:=i.cl.1
  have hc5:S.quota≤5000:=i.cl.2
  by_cases ht:t=281
  ·subst ht
   have hpi:isProc v=true:=by rw [hv.proc_iff];rfl
   have hcar:Sc.next S (.ap (.prim .callcc) [v] k) m=(match Sc.cell S m with
     |(.error e,m)=>(.stop e,m)
     |(.ok _,m)=>applyTo S v [.cont m.ids k m.wnd] k {m with ids:=m.ids+1}):=by
    show carry S (.prim .callcc) [v] k m=_
    simp [carry,Pm.isList,Pm.kinds,Pm.grant,Kd.ok,hpi]
    rfl
   obtain⟨b,rfl⟩:∃b,x'=bp b:=by cases hv with|proc v b h=>exact⟨b,rfl⟩
   have hqc:q≠G.cb:=fun e=>by have h1:=i.mi i.m3;have h2:G.I q=some _:=hq;rw [e,h1]at h2;cases h2
   by_cases hce:(m.cells:Int)<S.quota
   ·have hcar2:Sc.next S (.ap (.prim .callcc) [v] k) m=applyTo S v [.cont m.ids k m.wnd] k {m with cells:=m.cells+1,ids:=m.ids+1}:=by
     rw [hcar];simp [Sc.cell,hce]
    have ic:=i.cells (m.cells+1) (by push_cast;omega)
    have ic:Inv G S {m with cells:=m.cells+1} (w.setCell ⟨G.cb,0,none⟩ (.int .i64 ((m.cells:Int)+1))):=by simpa using ic
    refine qs8 g o sc q G.mb G.cb b ku m.cells S.quota cu w _ PostS.ends (fun v w' p=>p.cell hq) c0 cq i.mb1 i.ce (by omega) (by omega) (by omega) hqc fun w' hw=>?_
    have i':=Inv.lk hw ic
    obtain⟨gv,wp,hma,hwr⟩:=i'.ma
    refine Calls.mono (qm0 G.mb ku wp cu w' (by simp [World.cell?,hma])) ?_
    rintro e w1 ⟨rfl,hw1⟩
    have i3:=i'.alloc3 (.cells #[bp G.mb] 107) (.cells #[.func (.func ku) #[] cu] 295) (.cells #[.pointer wp] 117)
    have x3:=i'.x3 (.cells #[bp G.mb] 107) (.cells #[.func (.func ku) #[] cu] 295) (.cells #[.pointer wp] 117)
    have hz3:(((w'.alloc (.cells #[bp G.mb] 107)).alloc (.cells #[.func (.func ku) #[] cu] 295)).alloc (.cells #[.pointer wp] 117)).heap.size=w'.heap.size+3:=by simp
    have i4:=i3.newObj (.cells #[.func (.func 312) #[] #[bp w'.heap.size,bp (w'.heap.size+2),bp (w'.heap.size+1)]] 300)
    have x4:=i3.ext_newObj (.cells #[.func (.func 312) #[] #[bp w'.heap.size,bp (w'.heap.size+2),bp (w'.heap.size+1)]] 300)
    have a4:=i3.at_newObj (.cells #[.func (.func 312) #[] #[bp w'.heap.size,bp (w'.heap.size+2),bp (w'.heap.size+1)]] 300)
    rw [hz3]at i4 x4 a4
    have x5:=x3.trans x4 (Nat.le_add_right _ _)
    have i5:=Inv.lk hw1 i4
    generalize hH:((((G.add w'.heap.size (.cells #[bp G.mb] 107)).add (w'.heap.size+1) (.cells #[.func (.func ku) #[] cu] 295)).add (w'.heap.size+2) (.cells #[.pointer wp] 117)).add (w'.heap.size+3) (.cells #[.func (.func 312) #[] #[bp w'.heap.size,bp (w'.heap.size+2),bp (w'.heap.size+1)]] 300)).id (w'.heap.size+3)=H at i4 x4 a4 x5 i5
    have hb0:H.I w'.heap.size=some (.cells #[bp G.mb] 107 (0,0)):=by
     rw [←hH];show(Gh.add _ _ _).I _=_;rw [qae _ (by omega),qae _ (by omega),qae _ (by omega)];exact Gh.add_at _ _ _
    have hb1:H.I (w'.heap.size+1)=some (.cells #[.func (.func ku) #[] cu] 295 (0,0)):=by
     rw [←hH];show(Gh.add _ _ _).I _=_;rw [qae _ (by omega),qae _ (by omega)];exact Gh.add_at _ _ _
    have hb2:H.I (w'.heap.size+2)=some (.cells #[.pointer wp] 117 (0,0)):=by
     rw [←hH];show(Gh.add _ _ _).I _=_;rw [qae _ (by omega)];exact Gh.add_at _ _ _
    have hb3:H.I (w'.heap.size+3)=some (.cells #[.func (.func 312) #[] #[bp w'.heap.size,bp (w'.heap.size+2),bp (w'.heap.size+1)]] 300 (0,0)):=by
     rw [←hH];show(Gh.add _ _ _).I _=_;exact Gh.add_at _ _ _
    have hmb:H.mb=G.mb:=x5.le.mb
    have hvc:VRep H (.cont m.ids k m.wnd) (.iface 281 (bp (w'.heap.size+3))):=
     .proc _ _ (.cont m.ids k m.wnd _ _ _ _ (.func (.func ku) #[] cu) wp a4 hb3 (by show H.I _=_;rw [hmb];exact hb0) hb2 hb1 (hk.mono x5.le) (hwr.mono x5.le))
    refine⟨_,rfl,by rw [i5.cell (x5.le.mbox hq),hmb];rfl,fun w2 hw2=>?_⟩
    have i6:Inv H S _ w2:=Inv.lk hw2 (i5.below ((Below.refl _ _).alloc (Nat.le_refl _) _))
    have hlr:LRow H w2.heap (.slice (some ⟨w1.heap.size,0,none⟩) 1 1) [.cont m.ids k m.wnd]:=by
     obtain⟨z1,z2,z3⟩:=i5.new_loose
     refine .inr ⟨w1.heap.size,0,1,#[.iface 281 (bp (w'.heap.size+3))],rfl,by simp,by simp,by simp,by rw [hw2.heap];exact heap_alloc_new _ _,z2,z1,z3,fun j u hu=>?_⟩
     cases j with
     |zero=>simp at hu;subst hu;exact⟨_,rfl,hvc⟩
     |succ j=>simp at hu
    have key:=qbr (n:=n) H _ w2 v [.cont m.ids k m.wnd] k _ _ 1 1 ku cu i6 (hv.mono x5.le) hlr (hk.mono x5.le)
    rw [hmb]at key
    exact Calls.mono key fun e w p=>Post.stepS hcar2 rfl x5.up p
   ·have hm:(m.cells:Int)=S.quota:=by omega
    have hM:Mt G.cb m.cells S.quota 11 w:=i.ce
    rw [←hm]at hM
    have hnx:Sc.next S (.ap (.prim .callcc) [v] k) m=(.stop 11,m):=by rw [hcar];simp [Sc.cell,hce]
    refine Calls.mono (qp1 g o sc q G.mb G.cb b ku m.cells cu w c0 cq i.mb1 hM (by omega) (by omega)) ?_
    rintro e w' ⟨rfl,hb⟩
    have i1:=i.cells m.cells (by omega)
    exact Post.stepS hnx rfl (Gh.up.refl G) (Post.now (.stop 11 _ _ (i1.cntB (by rw [qaf];exact Nat.le_refl _) hb)))
  ·have hpi:isProc v=false:=by rw [hv.proc_iff];simpa using ht
   have hnx:Sc.next S (.ap (.prim .callcc) [v] k) m=(.stop 6,m):=by
    show carry S (.prim .callcc) [v] k m=_
    simp [carry,Pm.isList,Pm.kinds,Pm.grant,Kd.ok,hpi]
   refine Calls.mono (qp2 g o sc q ku t x' cu w c0 ht) ?_
   rintro e w' ⟨rfl,o',rfl⟩
   exact Post.stepS hnx rfl (Gh.up.refl G) (Post.now (.stop 6 _ _ (i.cntB (Nat.le_refl _) ((Below.refl _ _).alloc (Nat.le_refl _) _))))
 ·have hnx:Sc.next S (.ap (.prim .callcc) al k) m=(.stop 7,m):=by
   show carry S (.prim .callcc) al k m=_
   have:al.length≠1:=by omega
   simp [carry,Pm.isList,Pm.kinds,this]
  refine Calls.mono (qp3 sa sn sc q ku cu w hs6 hlen) ?_
  rintro e w' ⟨rfl,o',rfl⟩
  exact Post.stepS hnx rfl (Gh.up.refl G) (Post.now (.stop 7 _ _ (i.cntB (Nat.le_refl _) ((Below.refl _ _).alloc (Nat.le_refl _) _))))
end
end Go.Proofs.YtldaocpojcfljaaGreatDoor
