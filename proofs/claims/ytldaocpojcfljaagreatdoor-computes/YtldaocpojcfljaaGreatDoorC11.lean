import Derived.Test.YtldaocpojcfljaaGreatDoorC10
import Derived.Deep.OwnRows
set_option maxRecDepth 100000
set_option maxHeartbeats 4000000
namespace Go.Proofs.YtldaocpojcfljaaGreatDoor
open Tryz hiding parts
open Go.RowKit Go.Shelf
section
theorem qcw {w:World} (A:Array Value) (t i:Nat) (v:Value):((w.alloc (.cells A t)).setCell ⟨w.heap.size,i,none⟩ v).heap=(w.alloc (.cells (A.setIfInBounds i v) t)).heap:=by
 apply Array.ext_getElem?
 intro c
 by_cases h:c=w.heap.size
 ·subst h
  rw [heap_alloc_new]
  show((w.alloc (.cells A t)).heap.modify w.heap.size _)[w.heap.size]? =_
  rw [Array.getElem?_modify,if_pos rfl,heap_alloc_new]
  simp
 ·rw [qaa (a:=⟨w.heap.size,i,none⟩) c h]
  rcases Nat.lt_or_ge c w.heap.size with h1|h1
  ·rw [Below.heap_alloc _ _ _ h1,Below.heap_alloc _ _ _ h1]
  ·rw [Array.getElem?_eq_none (by simp;omega),Array.getElem?_eq_none (by simp;omega)]
def Chn (w:World):List Value→Option Addr→Prop
 | [],p=>p=none
 |x::r,p=>∃b q,p=some ⟨b,0,none⟩∧w.heap[b]? =some (.cells #[x,.pointer q,.int .i64 ((r.length:Int)+1)] 485 (0,0))∧Chn w r q
theorem qet:(prog.info? 116).map (fun i=>(i.zero,i.size,i.bytes))=some (some .nilIface,1,16):=by kernel_rfl
def rowN (xs:List Value) (k:Nat):Array Value:=(List.replicate k Value.nilIface++xs.reverse.drop k).toArray
theorem qrf (pre:List Value) (y:Value) (ys:List Value):(rowN (pre++y::ys) (ys.length+1)).setIfInBounds ys.length y=rowN (pre++y::ys) ys.length:=by
 unfold rowN
 apply Array.ext_getElem?
 intro i
 simp only [List.setIfInBounds_toArray,List.getElem?_toArray]
 have hl:(pre++y::ys).reverse=ys.reverse++(y::pre.reverse):=by simp
 have h0:(ys.reverse++y::pre.reverse).drop ys.length=y::pre.reverse:=by
  rw [show ys.length=ys.reverse.length from by simp,List.drop_left]
 have h1:(ys.reverse++y::pre.reverse).drop (ys.length+1)=pre.reverse:=by
  rw [←List.drop_drop,h0];rfl
 rw [hl,h0,h1]
 simp only [List.getElem?_set,List.length_append,List.length_replicate]
 by_cases h:ys.length=i
 ·subst h
  rw [if_pos rfl,if_pos (by omega),List.getElem?_append_right (by simp)]
  simp
 ·rw [if_neg h]
  rcases Nat.lt_or_ge i ys.length with h2|h2
  ·rw [List.getElem?_append_left (by simp;omega),List.getElem?_append_left (by simp;omega)]
   simp only [List.getElem?_replicate];rw [if_pos (by omega),if_pos h2]
  ·rw [List.getElem?_append_right (by simp;omega),List.getElem?_append_right (by simp;omega)]
   simp only [List.length_replicate]
   obtain⟨d,rfl⟩:∃d,i=ys.length+1+d:=⟨i-ys.length-1,by omega⟩
   rw [show ys.length+1+d-(ys.length+1)=d from by omega,show ys.length+1+d-ys.length=d+1 from by omega]
   simp
theorem qr0 (n:Nat):madeCells #[.nilIface] n=(List.replicate n Value.nilIface).toArray:=by
 apply Array.ext_getElem?
 intro i
 rcases Nat.lt_or_ge i n with h|h
 ·simp [madeCells,h,Nat.mod_one]
 ·rw [Array.getElem?_eq_none (by simp [madeCells];omega),Array.getElem?_eq_none (by simp;omega)]
def cntOf (w:World):Value→Nat
 | .pointer (some a)=>match w.cell? ⟨a.block,2,none⟩with
  |some (.int _ n)=>n.toNat
  |_=>0
 |_=>0
theorem qk8 (xs:List Value) (p:Option Addr) (w:World) (h:Chn w xs p) (hx:∀x∈xs,∃t v,x=.iface t v) (hn:0<xs.length) (hm:xs.length≤100000):
  Calls prog 395 #[.pointer p] w fun e w'=>e=.returned (.slice (some ⟨w.heap.size,0,none⟩) xs.length xs.length)∧Lk (w.alloc (.cells xs.reverse.toArray 116)) w':=by
 have hz:Gsize w p (xs.length:Int):=by
  cases xs with
  |nil=>simp at hn
  |cons x r=>
   obtain⟨b,q,rfl,hb,_⟩:=h
   exact .inr ⟨b,rfl,by simp [World.cell?,hb]⟩
 have HS:=hZ (qj9 p (xs.length:Int) w hz)
 have HC:=hZ h
 have HX:=hZ hx
 have HN:=hZ hn
 have hmk:∀w:World,(Instr.makeSlice 184 (.int .i64 (xs.length:Int)) (.int .i64 (xs.length:Int))).run prog w=.ok (.slice (some ⟨w.heap.size,0,none⟩) xs.length xs.length) (w.alloc (.cells (madeCells #[.nilIface] xs.length) 116)):=
  fun w=>run_make_row' 184 116 .nilIface 16 underlying184 qet rfl .i64 .i64 xs.length (by omega) (by omega) w
 clear h hx hz hn
 go_enter func395,ntmps395
 go_wp2_with (go_at_call 413;refine HS.out.mono ?_;rintro e w2 ⟨rfl,hww⟩;obtain rfl:=hww.symm)
 go_wp2
 go_loopw [0] (fun g wr=>∃pre ys q,xs=pre++ys∧g=.pointer q∧Chn w ys q∧Lk (w.alloc (.cells (rowN xs ys.length) 116)) wr) (fun g _=>cntOf w g)
 case atStart=>
  refine⟨[],xs,p,rfl,rfl,HC.out,⟨?_,rfl,rfl,rfl⟩⟩
  show(w.alloc (.cells (madeCells #[.nilIface] xs.length) 116)).heap=(w.alloc (.cells (rowN xs xs.length) 116)).heap
  rw [qr0]
  have:(rowN xs xs.length)=(List.replicate xs.length Value.nilIface).toArray:=by
   unfold rowN;rw [show xs.length=xs.reverse.length from by simp,List.drop_length];simp
  rw [this]
 case round=>
  obtain⟨pre,ys,q,hxs,rfl,hc,hl⟩:=hrel
  have HXs:=hZ hxs
  have HL:=hZ hl
  cases ys with
  |nil=>
   obtain rfl:q=none:=hc
   clear hxs hl
   go_wp2
   go_ret
   refine⟨rfl,?_⟩
   have:=HL.out
   have e0:rowN xs ([]:List Value).length=xs.reverse.toArray:=by simp [rowN]
   rw [e0]at this;exact this
  |cons y r=>
   obtain⟨b,q',rfl,hb,hr⟩:=hc
   have HB:=hZ hb
   have HR:=hZ hr
   have hbl:b<w.heap.size:=(Array.getElem?_eq_some_iff.1 hb).1
   have hbw:wr.heap[b]? =some (.cells #[y,.pointer q',.int .i64 ((r.length:Int)+1)] 485 (0,0)):=by
    rw [hl.heap,Below.heap_alloc _ _ _ hbl];exact hb
   have c0:wr.cell? ⟨b,0,none⟩=some y:=by simp [World.cell?,hbw]
   have c1:wr.cell? ⟨b,1,none⟩=some (.pointer q'):=by simp [World.cell?,hbw]
   have c2:wr.cell? ⟨b,2,none⟩=some (.int .i64 ((r.length:Int)+1)):=by simp [World.cell?,hbw]
   have hlen:xs.length=pre.length+(r.length+1):=by rw [hxs];simp
   have hrow:wr.heap[w.heap.size]? =some (.cells (rowN xs (r.length+1)) 116 (0,0)):=by
    rw [hl.heap];exact heap_alloc_new _ _
   have hsz:(rowN xs (r.length+1)).size=xs.length:=by simp [rowN];omega
   obtain⟨z,cR⟩:∃z,wr.cell? ⟨w.heap.size,r.length,none⟩=some z:=by
    have h5:r.length<(rowN xs (r.length+1)).size:=by omega
    exact⟨(rowN xs (r.length+1))[r.length],by simp only [World.cell?,hrow];simp [h5]⟩
   have fR:wr.frozen? ⟨w.heap.size,r.length,none⟩=false:=by simp [World.frozen?,hrow]
   have hri:(r.length:Int)<(xs.length:Int):=by omega
   have hrm:r.length≤100000:=by omega
   obtain⟨ty,vy,rfl⟩:=HX.out y (by rw [hxs];simp)
   have k1:∀v,(wr.setCell ⟨w.heap.size,r.length,none⟩ v).cell? ⟨b,1,none⟩=some (.pointer q'):=fun v=>by
    rw [qag (by show b≠w.heap.size;omega)];exact c1
   clear hb hr hxs hl hbl hbw hrow hsz hlen
   go_wp2
   go_region
   all_goals(go_wp2;go_roundw)
   case rel=>
    refine⟨pre++[.iface ty vy],r,q',by rw [HXs.out];simp,rfl,HR.out,⟨?_,HL.out.tape,HL.out.os,HL.out.output⟩⟩
    show(wr.setCell ⟨w.heap.size,r.length,none⟩ (.iface ty vy)).heap=_
    have e1:(wr.setCell ⟨w.heap.size,r.length,none⟩ (.iface ty vy)).heap=((w.alloc (.cells (rowN xs (r.length+1)) 116)).setCell ⟨w.heap.size,r.length,none⟩ (.iface ty vy)).heap:=by
     simp only [World.setCell];rw [HL.out.heap];rfl
    rw [e1,qcw]
    have e2:=qrf pre (.iface ty vy) r
    rw [←HXs.out]at e2
    rw [e2]
   case measure=>
    have e1:cntOf w (.pointer (some ⟨b,0,none⟩))=r.length+1:=by
     simp only [cntOf,World.cell?,HB.out];simp
    rw [e1]
    cases r with
    |nil=>obtain rfl:q'=none:=HR.out;simp [cntOf]
    |cons y' r'=>
     obtain⟨b',q2,rfl,hb',_⟩:=HR.out
     simp only [cntOf,World.cell?,hb'];simp
theorem qbs {w:World} (c:Array Value) (t o n:Nat) (h:w.heap.size=n):(w.alloc (.cells c t)).cell? ⟨n,o,none⟩=c[o]?:=by
 subst h;simp only [World.cell?,heap_alloc_new];simp
theorem qas {W w:World} (h:Lk W w) (p:Addr):w.cell? p=W.cell? p:=by simp only [World.cell?,h.heap]
theorem qml (mb k:Nat) (cp:Array Value) (a pf pd:Option Addr) (cap:Nat) (xs:List Value) (w:World) (Q:Ending→World→Prop)
  (eg:∀args w,(callFunc k args).run prog w=.ok (.enter k args) w)
  (hQ:∀e w,Q e w→(∃v,e=.returned v)∨(∃ps,e=.panicked ps))
  (hS:∀v w',Q (.returned v) w'→w'.cell? ⟨w.heap.size+4,0,none⟩=some (.func (.func k) #[] cp)∧w'.cell? ⟨w.heap.size+3,0,none⟩=some (.pointer pd))
  (hc:Chn w xs pd) (hx:∀x∈xs,∃t v,x=.iface t v) (hn:0<xs.length) (hm:xs.length≤100000)
  (hK:∀w',Lk ((((((w.alloc (.cells #[.pointer (some ⟨mb,0,none⟩)] 107)).alloc (.cells #[.slice a 0 cap] 426)).alloc (.cells #[.pointer pf] 378)).alloc (.cells #[.pointer pd] 470)).alloc (.cells #[.func (.func k) #[] cp] 450)).alloc (.cells xs.reverse.toArray 116)) w'→
   Calls prog k (#[.slice (some ⟨w.heap.size+5,0,none⟩) xs.length xs.length]++cp) w' Q):
  Calls prog 371 #[.pointer (some ⟨mb,0,none⟩),.slice a 0 cap,.pointer pf,.pointer pd,.func (.func k) #[] cp] w Q:=by
 have HK:=hZ hK
 have HQ:=hZ hQ
 have HS:=hZ hS
 have HV:Hid (∀w',Lk (((((w.alloc (.cells #[.pointer (some ⟨mb,0,none⟩)] 107)).alloc (.cells #[.slice a 0 cap] 426)).alloc (.cells #[.pointer pf] 378)).alloc (.cells #[.pointer pd] 470)).alloc (.cells #[.func (.func k) #[] cp] 450)) w'→Calls prog 395 #[.pointer pd] w' fun e w2=>e=.returned (.slice (some ⟨w.heap.size+5,0,none⟩) xs.length xs.length)∧Lk (w'.alloc (.cells xs.reverse.toArray 116)) w2):=fun w' hw=>by
  have h1:Chn w' xs pd:=by
   have hb:∀b,b<w.heap.size→w'.heap[b]? =w.heap[b]?:=fun b hb=>by
    rw [hw.heap,Below.heap_alloc _ _ _ (by simp;omega),Below.heap_alloc _ _ _ (by simp;omega),Below.heap_alloc _ _ _ (by simp;omega),Below.heap_alloc _ _ _ (by simp;omega),Below.heap_alloc _ _ _ hb]
   clear hn hm hK hS HK HS hx hw
   induction xs generalizing pd with
   |nil=>exact hc
   |cons x r ih=>
    obtain⟨b,q,e1,e2,e3⟩:=hc
    exact⟨b,q,e1,by rw [hb b (Array.getElem?_eq_some_iff.1 e2).1];exact e2,ih q e3⟩
  have h2:=qk8 xs pd w' h1 hx hn hm
  have h3:w'.heap.size=w.heap.size+5:=by rw [hw.heap];simp
  rw [h3]at h2
  exact h2
 have k4:(((((w.alloc (.cells #[.pointer (some ⟨mb,0,none⟩)] 107)).alloc (.cells #[.slice a 0 cap] 426)).alloc (.cells #[.pointer pf] 378)).alloc (.cells #[.pointer pd] 470)).alloc (.cells #[.func (.func k) #[] cp] 450)).cell? ⟨w.heap.size+4,0,none⟩=some (.func (.func k) #[] cp):=qbs _ _ _ _ (by simp)
 have k3:(((((w.alloc (.cells #[.pointer (some ⟨mb,0,none⟩)] 107)).alloc (.cells #[.slice a 0 cap] 426)).alloc (.cells #[.pointer pf] 378)).alloc (.cells #[.pointer pd] 470)).alloc (.cells #[.func (.func k) #[] cp] 450)).cell? ⟨w.heap.size+3,0,none⟩=some (.pointer pd):=(qad (by simp) _).trans (qbs _ _ _ _ (by simp))
 have k2:((((((w.alloc (.cells #[.pointer (some ⟨mb,0,none⟩)] 107)).alloc (.cells #[.slice a 0 cap] 426)).alloc (.cells #[.pointer pf] 378)).alloc (.cells #[.pointer pd] 470)).alloc (.cells #[.func (.func k) #[] cp] 450)).alloc (.cells xs.reverse.toArray 116)).cell? ⟨w.heap.size+4,0,none⟩=some (.func (.func k) #[] cp):=(qad (by simp) _).trans k4
 have k1:((((((w.alloc (.cells #[.pointer (some ⟨mb,0,none⟩)] 107)).alloc (.cells #[.slice a 0 cap] 426)).alloc (.cells #[.pointer pf] 378)).alloc (.cells #[.pointer pd] 470)).alloc (.cells #[.func (.func k) #[] cp] 450)).alloc (.cells xs.reverse.toArray 116)).cell? ⟨w.heap.size+3,0,none⟩=some (.pointer pd):=(qad (by simp) _).trans k3
 clear hK hQ hS hc hx
 go_enter func371,ntmps371
 go_wp2
 go_region_held2 (fun w'=>w'.cell? ⟨w.heap.size+4,0,none⟩=some (.func (.func k) #[] cp)∧w'.cell? ⟨w.heap.size+3,0,none⟩=some (.pointer pd)) (first|(exact HS.out _ _ hq)|(exact⟨(qas hl _).trans k2,(qas hl _).trans k1⟩)|go_keep)
  (first|(go_at_call 395;refine(HV.out _ (by exact⟨rfl,rfl,rfl,rfl⟩)).mono ?_;rintro e w2 ⟨rfl,hl⟩)|(go_at_fn k;refine(HK.out _ (by exact⟨hl.heap,hl.tape,hl.os,hl.output⟩)).mono ?_;intro e w3 hq;rcases HQ.out _ _ hq with⟨v,rfl⟩|⟨ps,rfl⟩;rotate_left;(exact⟨rfl,hq⟩)))
 go_wp2
 exact hq
end
section
theorem qbk {w:World} {b:Nat} (o:Obj) (i:Nat) (v:Value) (h:b<w.heap.size):((w.alloc o).setCell ⟨b,i,none⟩ v).heap=((w.setCell ⟨b,i,none⟩ v).alloc o).heap:=by
 apply Array.ext_getElem?
 intro c
 have hs:(w.setCell ⟨b,i,none⟩ v).heap.size=w.heap.size:=qaf
 by_cases e:c=b
 ·subst e
  rw [Below.heap_alloc _ _ _ (by rw [hs];exact h)]
  show((w.alloc o).heap.modify c _)[c]? =(w.heap.modify c _)[c]?
  rw [Array.getElem?_modify,if_pos rfl,Array.getElem?_modify,if_pos rfl,Below.heap_alloc _ _ _ h]
 ·rw [qaa (a:=⟨b,i,none⟩) c e]
  rcases Nat.lt_trichotomy c w.heap.size with h1|h1|h1
  ·rw [Below.heap_alloc _ _ _ h1,Below.heap_alloc _ _ _ (by rw [hs];exact h1),qaa (a:=⟨b,i,none⟩) c e]
  ·rw [h1,heap_alloc_new,←hs,heap_alloc_new]
  ·rw [Array.getElem?_eq_none (by simp;omega),Array.getElem?_eq_none (by simp [hs];omega)]
theorem qtf (mb sb b ku:Nat) (t mo:Int) (sa:Option Addr) (sn sc:Nat) (cu:Array Value) (w:World) (h2:w.cell? ⟨mb,0,none⟩=some (.pointer (some ⟨sb,0,none⟩)))
  (hM:Mt sb t mo 10 w) (h0:0≤t) (ht:t+1≤mo) (hm:mo≤1000000):
  Calls prog 283 #[.pointer (some ⟨mb,0,none⟩),.iface 281 (.pointer (some ⟨b,0,none⟩)),.slice sa sn sc,.func (.func ku) #[] cu] w fun e w'=>
   e=.returned (.func (.func 311) #[] #[.pointer (some ⟨w.heap.size+2,0,none⟩),.pointer (some ⟨w.heap.size,0,none⟩),.pointer (some ⟨w.heap.size+1,0,none⟩)])∧
   Lk ((((w.setCell ⟨sb,0,none⟩ (.int .i64 (t+1))).alloc (.cells #[.slice sa sn sc] 184)).alloc (.cells #[.func (.func ku) #[] cu] 295)).alloc (.cells #[.pointer (some ⟨b,0,none⟩)] 281)) w':=by
 have k2:∀o1 o2,((w.alloc o1).alloc o2).cell? ⟨mb,0,none⟩=some (.pointer (some ⟨sb,0,none⟩)):=fun o1 o2=>(qau (qac h2) o1 o2).trans h2
 have hsl:=hM.lt
 have HT:Hid (∀o1 o2,Calls prog 200 #[.pointer (some ⟨sb,0,none⟩),.int .i64 1] ((w.alloc o1).alloc o2) fun e w'=>e=.returned (.tuple #[])∧∃k,w'=(((w.alloc o1).alloc o2).setCell ⟨sb,0,none⟩ (.int .i64 (t+1))).drewN k):=fun o1 o2=>
  qba sb t mo 10 1 _ (by unfold Mt at*;rw [Below.heap_alloc _ _ _ (by simp;omega),Below.heap_alloc _ _ _ hsl];exact hM) h0 ht (by omega) hm
 have ha:∀w,(Instr.typeAssert (.iface 281 (.pointer (some ⟨b,0,none⟩))) 116 281 true).run prog w=.ok (.tuple #[.pointer (some ⟨b,0,none⟩),.bool true]) w:=fun w=>qsd _ w
 clear hM
 go_enter func283,ntmps283
 go_wp2_with (go_at_call 200;refine(HT.out _ _).mono ?_;rintro e w2 ⟨rfl,n,rfl⟩)
 go_wp2_with (go_at_call 273;refine(qbi _ _).mono ?_;rintro e w2 ⟨rfl,hww⟩;obtain rfl:=hww.symm)
 go_wp2
 go_ret
 exact⟨by simp,⟨rfl,rfl,rfl,rfl⟩⟩
theorem qqf (mb sb ty ku:Nat) (v:Value) (t mo:Int) (sa:Option Addr) (sn sc:Nat) (cu:Array Value) (w:World) (h2:w.cell? ⟨mb,0,none⟩=some (.pointer (some ⟨sb,0,none⟩)))
  (hM:Mt sb t mo 10 w) (h0:0≤t) (ht:t+1≤mo) (hm:mo≤1000000) (hty:ty≠281):
  Calls prog 283 #[.pointer (some ⟨mb,0,none⟩),.iface ty v,.slice sa sn sc,.func (.func ku) #[] cu] w fun e w'=>
   e=.panicked (stopP (stopV 6))∧Below w.heap.size (w.setCell ⟨sb,0,none⟩ (.int .i64 (t+1))) w':=by
 have k2:∀o1 o2,((w.alloc o1).alloc o2).cell? ⟨mb,0,none⟩=some (.pointer (some ⟨sb,0,none⟩)):=fun o1 o2=>(qau (qac h2) o1 o2).trans h2
 have hsl:=hM.lt
 have HT:Hid (∀o1 o2,Calls prog 200 #[.pointer (some ⟨sb,0,none⟩),.int .i64 1] ((w.alloc o1).alloc o2) fun e w'=>e=.returned (.tuple #[])∧∃k,w'=(((w.alloc o1).alloc o2).setCell ⟨sb,0,none⟩ (.int .i64 (t+1))).drewN k):=fun o1 o2=>
  qba sb t mo 10 1 _ (by unfold Mt at*;rw [Below.heap_alloc _ _ _ (by simp;omega),Below.heap_alloc _ _ _ hsl];exact hM) h0 ht (by omega) hm
 have ha:∀w,(Instr.typeAssert (.iface ty v) 116 281 true).run prog w=.ok (.tuple #[.pointer none,.bool false]) w:=fun w=>qcz _ _ hty w
 clear hM
 go_enter func283,ntmps283
 go_wp2_with (go_at_call 200;refine(HT.out _ _).mono ?_;rintro e w2 ⟨rfl,n,rfl⟩)
 go_wp2_with (go_at_call 273;refine(qbh _ _).mono ?_;rintro e w2 ⟨rfl,o,rfl⟩)
 refine⟨rfl,rfl,?_⟩
 have e0:(w.setCell ⟨sb,0,none⟩ (.int .i64 (t+1))).heap.size=w.heap.size:=qaf
 have b1:=(((Below.refl w.heap.size (w.setCell ⟨sb,0,none⟩ (.int .i64 (t+1)))).alloc (by rw [e0];exact Nat.le_refl _) (.cells #[.slice sa sn sc] 184)).alloc (by simp) (.cells #[.func (.func ku) #[] cu] 295))
 exact((qbq b1 n).alloc (by simp;omega) _).alloc (by simp;omega) _
theorem qqe (mb sb ku:Nat) (v:Value) (t:Int) (sa:Option Addr) (sn sc:Nat) (cu:Array Value) (w:World) (h2:w.cell? ⟨mb,0,none⟩=some (.pointer (some ⟨sb,0,none⟩)))
  (hM:Mt sb t t 10 w) (h0:0≤t) (hm:t≤1000000):
  Calls prog 283 #[.pointer (some ⟨mb,0,none⟩),v,.slice sa sn sc,.func (.func ku) #[] cu] w fun e w'=>
   e=.panicked (stopP (stopV 10))∧Below w.heap.size (w.setCell ⟨sb,0,none⟩ (.int .i64 t)) w':=by
 have k2:∀o1 o2,((w.alloc o1).alloc o2).cell? ⟨mb,0,none⟩=some (.pointer (some ⟨sb,0,none⟩)):=fun o1 o2=>(qau (qac h2) o1 o2).trans h2
 have hsl:=hM.lt
 have HT:Hid (∀o1 o2,Calls prog 200 #[.pointer (some ⟨sb,0,none⟩),.int .i64 1] ((w.alloc o1).alloc o2) fun e w'=>e=.panicked (stopP (stopV 10))∧Below (((w.alloc o1).alloc o2)).heap.size (((w.alloc o1).alloc o2).setCell ⟨sb,0,none⟩ (.int .i64 t)) w'):=fun o1 o2=>
  qa1 sb t t 10 1 _ (by unfold Mt at*;rw [Below.heap_alloc _ _ _ (by simp;omega),Below.heap_alloc _ _ _ hsl];exact hM) h0 (by omega) (by omega) (by omega) hm
 clear hM
 go_enter func283,ntmps283
 go_wp2_with (go_at_call 200;refine(HT.out _ _).mono ?_;rintro e w2 ⟨rfl,hb⟩)
 refine⟨rfl,rfl,?_⟩
 have e0:(w.setCell ⟨sb,0,none⟩ (.int .i64 t)).heap.size=w.heap.size:=qaf
 refine⟨hb.os,hb.tape,hb.output,by rw [e0];have:=hb.size;simp only [qaf]at this;simp at this;omega,fun c hc=>?_⟩
 rw [hb.block c (by simp;omega),qbk _ _ _ (by simp;omega),Below.heap_alloc _ _ _ (by simp only [qaf];simp;omega)]
 by_cases e:c=sb
 ·subst e
  show((w.alloc _).heap.modify c _)[c]? =(w.heap.modify c _)[c]?
  rw [Array.getElem?_modify,if_pos rfl,Array.getElem?_modify,if_pos rfl,Below.heap_alloc _ _ _ hc]
 ·rw [qaa (a:=⟨sb,0,none⟩) c e,qaa (a:=⟨sb,0,none⟩) c e,Below.heap_alloc _ _ _ hc]
def Outs (w:World):Nat→Option Addr→Nat→Prop
 |0,p,fb=>p=some ⟨fb,0,none⟩
 |n+1,p,fb=>∃b q,p=some ⟨b,0,none⟩∧w.cell? ⟨b,1,none⟩=some (.pointer q)∧Outs w n q fb
theorem qdt (u i fb g o n cap:Nat) (p:Option Addr) (w:World) (h:Outs w u p fb) (hf:w.cell? ⟨fb,0,none⟩=some (.slice (some ⟨g,o,none⟩) n cap)) (hi:i<n) (hu:u≤1000000000) (_hn:n≤1000000000):
  Calls prog 367 #[.pointer p,.agg #[.int .i64 (u:Int),.int .i64 (i:Int)]] w fun e w'=>e=.returned (.pointer (some ⟨g,o+i,none⟩))∧Lk (w.alloc (.cells #[.int .i64 (u:Int),.int .i64 (i:Int)] 395)) w':=by
 have HO:=hZ h
 have kf:∀x,(w.alloc x).cell? ⟨fb,0,none⟩=some (.slice (some ⟨g,o,none⟩) n cap):=fun x=>(qad (qac hf) x).trans hf
 have hin:(i:Int)<(n:Int):=by omega
 clear h
 go_enter func367,ntmps367
 go_wp2
 go_loopw [0,7] (fun a b wr=>∃r q,r≤u∧b=.int .i64 ((u:Int)-(r:Int))∧a=.pointer q∧Outs w r q fb∧wr=w.alloc (.cells #[.int .i64 (u:Int),.int .i64 (i:Int)] 395)) (fun _ b _=>u-(intOf b).toNat)
 case atStart=>exact⟨u,p,Nat.le_refl _,by simp,rfl,HO.out,rfl⟩
 case round=>
  obtain⟨r,q,hr,rfl,rfl,ho,rfl⟩:=hrel
  cases r with
  |zero=>
   obtain rfl:q=some ⟨fb,0,none⟩:=ho
   have hlt:¬((u:Int)-((0:Nat):Int)<(u:Int)):=by omega
   go_wp2
   go_quiet (fail)
   go_wp2
   go_ret
   exact⟨rfl,⟨rfl,rfl,rfl,rfl⟩⟩
  |succ r=>
   obtain⟨b,q',rfl,hb,ho'⟩:=ho
   have kb:∀x,(w.alloc x).cell? ⟨b,1,none⟩=some (.pointer q'):=fun x=>(qad (qac hb) x).trans hb
   have hlt:(u:Int)-((r+1:Nat):Int)<(u:Int):=by omega
   have HO':=hZ ho'
   clear ho'
   go_wp2
   go_roundw
   case rel=>exact⟨r,q',by omega,by go_num,by first|trivial|rfl,HO'.out,by first|trivial|rfl⟩
   case measure=>simp [intOf];omega
end
section
theorem qkl {W w:World} {B:Nat} {w0:World} (h:Lk W w) (b:Below B w0 W):Below B w0 w:=⟨h.os.trans b.os,h.tape.trans b.tape,h.output.trans b.output,by rw [h.heap];exact b.size,fun k hk=>by rw [h.heap];exact b.block k hk⟩
theorem local1 (q u i fb g o n cap t k:Nat) (v:Value) (p:Option Addr) (cp:Array Value) (w:World) (Q:Ending→World→Prop)
  (eg:∀args w,(callFunc k args).run prog w=.ok (.enter k args) w)
  (hQ:∀e w,Q e w→(∃v,e=.returned v)∨(∃ps,e=.panicked ps))
  (h0:w.cell? ⟨q,0,none⟩=some (.int .i64 (u:Int))) (h1:w.cell? ⟨q,1,none⟩=some (.int .i64 (i:Int)))
  (h:Outs w u p fb) (hf:w.cell? ⟨fb,0,none⟩=some (.slice (some ⟨g,o,none⟩) n cap)) (hi:i<n) (hu:u≤1000000000) (hn:n≤1000000000) (hx:w.cell? ⟨g,o+i,none⟩=some (.iface t v))
  (hK:∀w',Below w.heap.size w w'→Calls prog k (#[.iface t v]++cp) w' Q):
  Calls prog 366 #[.pointer p,.func (.func k) #[] cp,.pointer (some ⟨q,0,none⟩)] w Q:=by
 have HK:=hZ hK
 have HQ:=hZ hQ
 have HV:=hZ (qdt u i fb g o n cap p w h hf hi hu hn)
 clear hK hQ h
 go_enter func366,ntmps366
 go_wp2_with (go_at_call 367;refine HV.out.mono ?_;rintro e w2 ⟨rfl,hl⟩;have kx:w2.cell? ⟨g,o+i,none⟩=some (.iface t v):=(qas hl _).trans ((qad (qac hx) _).trans hx);have HL:=hZ hl;clear hl)
 go_wp2_with (go_at_fn k;refine(HK.out _ (qkl HL.out ((Below.refl _ _).alloc (Nat.le_refl _) _))).mono ?_;intro e w3 hq)
 all_goals first|exact hq|exact⟨rfl,hq⟩|(rcases HQ.out _ _ hq with⟨v,h⟩|⟨ps,h⟩ <;> cases h)
theorem qnu (q u i fb g o n cap:Nat) (x y:Value) (p:Option Addr) (w:World) (hxx:∃t v,x=.iface t v)
  (h0:w.cell? ⟨q,0,none⟩=some (.int .i64 (u:Int))) (h1:w.cell? ⟨q,1,none⟩=some (.int .i64 (i:Int)))
  (h:Outs w u p fb) (hf:w.cell? ⟨fb,0,none⟩=some (.slice (some ⟨g,o,none⟩) n cap)) (hi:i<n) (hu:u≤1000000000) (hn:n≤1000000000) (hx:w.cell? ⟨g,o+i,none⟩=some y) (hyy:∃t v,y=.iface t v) (hz:w.frozen? ⟨g,o+i,none⟩=false):
  Calls prog 400 #[.pointer p,x,.pointer (some ⟨q,0,none⟩)] w fun e w'=>e=.returned (.tuple #[])∧∃w1,Below w.heap.size w w1∧w'=w1.setCell ⟨g,o+i,none⟩ x:=by
 obtain⟨t,v,rfl⟩:=hxx
 obtain⟨t',v',rfl⟩:=hyy
 have HV:=hZ (qdt u i fb g o n cap p w h hf hi hu hn)
 clear h
 go_enter func400,ntmps400
 go_wp2_with (go_at_call 367;refine HV.out.mono ?_;rintro e w2 ⟨rfl,hl⟩;refine Hid.out ?_)
 have kx:w2.cell? ⟨g,o+i,none⟩=some (.iface t' v'):=(qas hl _).trans ((qad (qac hx) _).trans hx)
 have kz:w2.frozen? ⟨g,o+i,none⟩=false:=by
  simp only [World.frozen?,hl.heap]
  have:=hz
  simp only [World.frozen?]at this
  rw [Below.heap_alloc _ _ _ (qac hx)];exact this
 have HL:=hZ hl
 clear hl
 refine hZ ?_
 go_wp2
 go_end0
 exact⟨rfl,w2,qkl HL.out ((Below.refl _ _).alloc (Nat.le_refl _) _),rfl⟩
theorem qkj (k:Nat) (p:Option Addr) (cp:Array Value) (w:World) (Q:Ending→World→Prop)
  (eg:∀args w,(callFunc k args).run prog w=.ok (.enter k args) w)
  (hQ:∀e w,Q e w→(∃v,e=.returned v)∨(∃ps,e=.panicked ps))
  (hK:∀w',Lk w w'→Calls prog k (#[.iface 379 (.agg #[])]++cp) w' Q):
  Calls prog 235 #[.pointer p,.func (.func k) #[] cp] w Q:=by
 have HK:=hZ hK
 have HQ:=hZ hQ
 clear hK hQ
 go_enter func235,ntmps235
 go_wp2_with (go_at_fn k;refine(HK.out _ (by exact⟨rfl,rfl,rfl,rfl⟩)).mono ?_;intro e w3 hq)
 all_goals first|exact hq|exact⟨rfl,hq⟩|(rcases HQ.out _ _ hq with⟨v,h⟩|⟨ps,h⟩ <;> cases h)
theorem run1 (q mb t:Nat) (v y:Value) (w:World) (h1:w.cell? ⟨q,0,none⟩=some (.pointer (some ⟨mb,0,none⟩))) (h2:w.cell? ⟨mb,3,none⟩=some y) (h3:w.frozen? ⟨mb,3,none⟩=false):
  Calls prog 230 #[.iface t v,.pointer (some ⟨q,0,none⟩)] w fun e w'=>e=.returned .nilFunc∧w'=w.setCell ⟨mb,3,none⟩ (.iface t v):=by
 go_enter func230,ntmps230
 go_wp2
 go_ret
 exact⟨rfl,rfl⟩
theorem qmb (q1 q2 q3 mb cb k:Nat) (t mo:Int) (p:Option Addr) (cp:Array Value) (w:World) (Q:Ending→World→Prop)
  (eg:∀args w,(callFunc k args).run prog w=.ok (.enter k args) w)
  (hQ:∀e w,Q e w→(∃v,e=.returned v)∨(∃ps,e=.panicked ps))
  (h1:w.cell? ⟨q1,0,none⟩=some (.pointer (some ⟨mb,0,none⟩))) (h2:w.cell? ⟨mb,1,none⟩=some (.pointer (some ⟨cb,0,none⟩))) (hM:Mt cb t mo 11 w) (h0:0≤t) (ht:t+1≤mo) (hm:mo≤1000000)
  (hK:∀w',Lk (((w.setCell ⟨cb,0,none⟩ (.int .i64 (t+1))).alloc (.cells #[.pointer p] 378)).alloc (.cells #[.func (.func 383) #[] #[.pointer (some ⟨q2,0,none⟩),.pointer (some ⟨q3,0,none⟩),.pointer (some ⟨w.heap.size,0,none⟩)]] 300)) w'→
   Calls prog k (#[.iface 281 (.pointer (some ⟨w.heap.size+1,0,none⟩))]++cp) w' Q):
  Calls prog 382 #[.pointer p,.func (.func k) #[] cp,.pointer (some ⟨q1,0,none⟩),.pointer (some ⟨q2,0,none⟩),.pointer (some ⟨q3,0,none⟩)] w Q:=by
 have HK:=hZ hK
 have HQ:=hZ hQ
 have k1:∀x,(w.alloc x).cell? ⟨q1,0,none⟩=some (.pointer (some ⟨mb,0,none⟩)):=fun x=>(qad (qac h1) x).trans h1
 have k2:∀x,(w.alloc x).cell? ⟨mb,1,none⟩=some (.pointer (some ⟨cb,0,none⟩)):=fun x=>(qad (qac h2) x).trans h2
 have hsl:=hM.lt
 have HT:Hid (∀x,Calls prog 200 #[.pointer (some ⟨cb,0,none⟩),.int .i64 1] (w.alloc x) fun e w'=>e=.returned (.tuple #[])∧∃k,w'=((w.alloc x).setCell ⟨cb,0,none⟩ (.int .i64 (t+1))).drewN k):=fun x=>
  qba cb t mo 11 1 _ (by unfold Mt at*;rw [Below.heap_alloc _ _ _ hsl];exact hM) h0 ht (by omega) hm
 clear hK hQ hM
 go_enter func382,ntmps382
 go_wp2_with (go_at_call 200;refine(HT.out _).mono ?_;rintro e w2 ⟨rfl,n,rfl⟩)
 go_wp2_with (go_at_fn k;refine(HK.out _ (by exact⟨rfl,rfl,rfl,rfl⟩)).mono ?_;intro e w3 hq)
 all_goals first|exact hq|exact⟨rfl,hq⟩|(rcases HQ.out _ _ hq with⟨v,h⟩|⟨ps,h⟩ <;> cases h)
theorem qji (q1 q2 q3 mb cb k:Nat) (t:Int) (p:Option Addr) (cp:Array Value) (w:World)
  (h1:w.cell? ⟨q1,0,none⟩=some (.pointer (some ⟨mb,0,none⟩))) (h2:w.cell? ⟨mb,1,none⟩=some (.pointer (some ⟨cb,0,none⟩))) (hM:Mt cb t t 11 w) (h0:0≤t) (hm:t≤1000000):
  Calls prog 382 #[.pointer p,.func (.func k) #[] cp,.pointer (some ⟨q1,0,none⟩),.pointer (some ⟨q2,0,none⟩),.pointer (some ⟨q3,0,none⟩)] w fun e w'=>e=.panicked (stopP (stopV 11))∧Below w.heap.size (w.setCell ⟨cb,0,none⟩ (.int .i64 t)) w':=by
 have k1:∀x,(w.alloc x).cell? ⟨q1,0,none⟩=some (.pointer (some ⟨mb,0,none⟩)):=fun x=>(qad (qac h1) x).trans h1
 have k2:∀x,(w.alloc x).cell? ⟨mb,1,none⟩=some (.pointer (some ⟨cb,0,none⟩)):=fun x=>(qad (qac h2) x).trans h2
 have hsl:=hM.lt
 have HT:Hid (∀x,Calls prog 200 #[.pointer (some ⟨cb,0,none⟩),.int .i64 1] (w.alloc x) fun e w'=>e=.panicked (stopP (stopV 11))∧Below (w.alloc x).heap.size ((w.alloc x).setCell ⟨cb,0,none⟩ (.int .i64 t)) w'):=fun x=>
  qa1 cb t t 11 1 _ (by unfold Mt at*;rw [Below.heap_alloc _ _ _ hsl];exact hM) h0 (by omega) (by omega) (by omega) hm
 clear hM
 go_enter func382,ntmps382
 go_wp2_with (go_at_call 200;refine(HT.out _).mono ?_;rintro e w2 ⟨rfl,hb⟩)
 refine⟨rfl,rfl,?_⟩
 refine⟨hb.os,hb.tape,hb.output,by have:=hb.size;simp only [qaf]at this⊢;simp at this;omega,fun c hc=>?_⟩
 rw [hb.block c (by simp;omega),qbk _ _ _ (by omega),Below.heap_alloc _ _ _ (by simp only [qaf];omega)]
end
end Go.Proofs.YtldaocpojcfljaaGreatDoor
