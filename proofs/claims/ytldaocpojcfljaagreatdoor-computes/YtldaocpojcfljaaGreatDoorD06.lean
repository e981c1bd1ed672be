import Derived.Test.YtldaocpojcfljaaGreatDoorD05
import Derived.Deep.OwnRows
import Derived.Lib.AppendIntMem
set_option maxRecDepth 100000
set_option maxHeartbeats 4000000
namespace Go.Proofs.YtldaocpojcfljaaGreatDoor
open Tryz hiding parts
open Go.RowKit Go.Shelf
section
theorem qcw{w:World}(A:Array Value)(t i:Nat)(v:Value):((w.alloc (.cells A t)).setCell ⟨w.heap.size,i,none⟩ v).heap=(w.alloc (.cells (A.setIfInBounds i v) t)).heap:=by
 apply Array.ext_getElem?;intro c;by_cases h:c=w.heap.size
 ·subst h;rw[heap_alloc_new];show((w.alloc (.cells A t)).heap.modify w.heap.size _)[w.heap.size]? =_;rw[Array.getElem?_modify,if_pos rfl,heap_alloc_new];simp
 ·rw[qaa (a:=⟨w.heap.size,i,none⟩) c h];rcases Nat.lt_or_ge c w.heap.size with h1|h1
  ·rw[Below.heap_alloc _ _ _ h1,Below.heap_alloc _ _ _ h1]
  ·rw[Array.getElem?_eq_none (by simp;omega),Array.getElem?_eq_none (by simp;omega)]
def Chn(w:World):List Value->Option Addr->Prop
 | [],p=>p=none
 |x::r,p=>∃b q,p=some ⟨b,0,none⟩/\w.heap[b]? =some (.cells #[x,.pointer q,.int .i64 ((r.length:Int)+1)] 485 (0,0))/\Chn w r q
theorem qet:(prog.info? 116).map (fun i=>(i.zero,i.size,i.bytes))=some (some .nilIface,1,16):=by kernel_rfl
def rowN(xs:List Value)(k:Nat):Array Value:=(List.replicate k Value.nilIface++xs.reverse.drop k).toArray
theorem qrf(pre:List Value)(y:Value)(ys:List Value):(rowN (pre++y::ys) (ys.length+1)).setIfInBounds ys.length y=rowN (pre++y::ys) ys.length:=by
 unfold rowN;apply Array.ext_getElem?;intro i;simp only[List.setIfInBounds_toArray,List.getElem?_toArray];have hl:(pre++y::ys).reverse=ys.reverse++(y::pre.reverse):=by simp
 have h0:(ys.reverse++y::pre.reverse).drop ys.length=y::pre.reverse:=by
  rw[show ys.length=ys.reverse.length from by simp,List.drop_left]
 have h1:(ys.reverse++y::pre.reverse).drop (ys.length+1)=pre.reverse:=by
  rw[<-List.drop_drop,h0];rfl
 rw[hl,h0,h1];simp only[List.getElem?_set,List.length_append,List.length_replicate];by_cases h:ys.length=i
 ·subst h;rw[if_pos rfl,if_pos (by omega),List.getElem?_append_right (by simp)];simp
 ·rw[if_neg h];rcases Nat.lt_or_ge i ys.length with h2|h2
  ·rw[List.getElem?_append_left (by simp;omega),List.getElem?_append_left (by simp;omega)];simp only[List.getElem?_replicate];rw[if_pos (by omega),if_pos h2]
  ·rw[List.getElem?_append_right (by simp;omega),List.getElem?_append_right (by simp;omega)];simp only[List.length_replicate];obtain⟨d,rfl⟩:∃d,i=ys.length+1+d:=⟨i-ys.length-1,by omega⟩;rw[show ys.length+1+d-(ys.length+1)=d from by omega,show ys.length+1+d-ys.length=d+1 from by omega];simp
theorem qr0(n:Nat):madeCells #[.nilIface] n=(List.replicate n Value.nilIface).toArray:=by
 apply Array.ext_getElem?;intro i;rcases Nat.lt_or_ge i n with h|h
 ·simp[madeCells,h,Nat.mod_one]
 ·rw[Array.getElem?_eq_none (by simp[madeCells];omega),Array.getElem?_eq_none (by simp;omega)]
def cntOf(w:World):Value->Nat
 | .pointer (some a)=>match w.cell? ⟨a.block,2,none⟩with
  |some (.int _ n)=>n.toNat
  |_=>0
 |_=>0
theorem qk8(xs:List Value)(p:Option Addr)(w:World)(h:Chn w xs p)(hx:∀x∈xs,∃t v,x=.iface t v)(hn:0<xs.length)(hm:xs.length<=100000):
  Calls prog 395 #[.pointer p] w fun e w'=>e=.returned (.slice (some ⟨w.heap.size,0,none⟩) xs.length xs.length)/\Lk (w.alloc (.cells xs.reverse.toArray 116)) w':=by
 have hz:Gsize w p (xs.length:Int):=by
  cases xs with
  |nil=>simp at hn
  |cons x r=>
   obtain⟨b,q,rfl,hb,_⟩:=h;exact .inr ⟨b,rfl,by simp[World.cell?,hb]⟩
 have HS:=hZ (qj9 p (xs.length:Int) w hz);have HC:=hZ h;have HX:=hZ hx;have HN:=hZ hn;have hmk:∀w:World,(Instr.makeSlice 184 (.int .i64 (xs.length:Int)) (.int .i64 (xs.length:Int))).run prog w=.ok (.slice (some ⟨w.heap.size,0,none⟩) xs.length xs.length) (w.alloc (.cells (madeCells #[.nilIface] xs.length) 116)):=
  fun w=>run_make_row' 184 116 .nilIface 16 underlying184 qet rfl .i64 .i64 xs.length (by omega) (by omega) w
 clear h hx hz hn;go_enter func395,ntmps395
 go_wp2_with (go_at_call 413;refine HS.out.mono ?_;rintro e w2 ⟨rfl,hww⟩;obtain rfl:=hww.symm)
 go_wp2;go_loopw [0] (fun g wr=>∃pre ys q,xs=pre++ys/\g=.pointer q/\Chn w ys q/\Lk (w.alloc (.cells (rowN xs ys.length) 116)) wr) (fun g _=>cntOf w g)
 case atStart=>
  refine⟨[],xs,p,rfl,rfl,HC.out,⟨?_,rfl,rfl,rfl⟩⟩;show(w.alloc (.cells (madeCells #[.nilIface] xs.length) 116)).heap=(w.alloc (.cells (rowN xs xs.length) 116)).heap;rw[qr0];have:(rowN xs xs.length)=(List.replicate xs.length Value.nilIface).toArray:=by
   unfold rowN;rw[show xs.length=xs.reverse.length from by simp,List.drop_length];simp
  rw[this]
 case round=>
  obtain⟨pre,ys,q,hxs,rfl,hc,hl⟩:=hrel;have HXs:=hZ hxs;have HL:=hZ hl;cases ys with
  |nil=>
   obtain rfl:q=none:=hc;clear hxs hl;go_wp2;go_ret;refine⟨rfl,?_⟩;have:=HL.out;have e0:rowN xs ([]:List Value).length=xs.reverse.toArray:=by simp[rowN]
   rw[e0]at this;exact this
  |cons y r=>
   obtain⟨b,q',rfl,hb,hr⟩:=hc;have HB:=hZ hb;have HR:=hZ hr;have hbl:b<w.heap.size:=(Array.getElem?_eq_some_iff.1 hb).1;have hbw:wr.heap[b]? =some (.cells #[y,.pointer q',.int .i64 ((r.length:Int)+1)] 485 (0,0)):=by
    rw[hl.heap,Below.heap_alloc _ _ _ hbl];exact hb
   have c0:wr.cell? ⟨b,0,none⟩=some y:=by simp[World.cell?,hbw]
   have c1:wr.cell? ⟨b,1,none⟩=some (.pointer q'):=by simp[World.cell?,hbw]
   have c2:wr.cell? ⟨b,2,none⟩=some (.int .i64 ((r.length:Int)+1)):=by simp[World.cell?,hbw]
   have hlen:xs.length=pre.length+(r.length+1):=by rw[hxs];simp
   have hrow:wr.heap[w.heap.size]? =some (.cells (rowN xs (r.length+1)) 116 (0,0)):=by
    rw[hl.heap];exact heap_alloc_new _ _
   have hsz:(rowN xs (r.length+1)).size=xs.length:=by simp[rowN];omega
   obtain⟨z,cR⟩:∃z,wr.cell? ⟨w.heap.size,r.length,none⟩=some z:=by
    have h5:r.length<(rowN xs (r.length+1)).size:=by omega
    exact⟨(rowN xs (r.length+1))[r.length],by simp only[World.cell?,hrow];simp[h5]⟩
   have fR:wr.frozen? ⟨w.heap.size,r.length,none⟩=false:=by simp[World.frozen?,hrow]
   have hri:(r.length:Int)<(xs.length:Int):=by omega
   have hrm:r.length<=100000:=by omega
   obtain⟨ty,vy,rfl⟩:=HX.out y (by rw[hxs];simp);have k1:∀v,(wr.setCell ⟨w.heap.size,r.length,none⟩ v).cell? ⟨b,1,none⟩=some (.pointer q'):=fun v=>by
    rw[qag (by show b≠w.heap.size;omega)];exact c1
   clear hb hr hxs hl hbl hbw hrow hsz hlen;go_wp2;go_region
   all_goals(go_wp2;go_roundw)
   case rel=>
    refine⟨pre++[.iface ty vy],r,q',by rw[HXs.out];simp,rfl,HR.out,⟨?_,HL.out.tape,HL.out.os,HL.out.output⟩⟩;show(wr.setCell ⟨w.heap.size,r.length,none⟩ (.iface ty vy)).heap=_;have e1:(wr.setCell ⟨w.heap.size,r.length,none⟩ (.iface ty vy)).heap=((w.alloc (.cells (rowN xs (r.length+1)) 116)).setCell ⟨w.heap.size,r.length,none⟩ (.iface ty vy)).heap:=by
     simp only[World.setCell];rw[HL.out.heap];rfl
    rw[e1,qcw];have e2:=qrf pre (.iface ty vy) r;rw[<-HXs.out]at e2;rw[e2]
   case measure=>
    have e1:cntOf w (.pointer (some ⟨b,0,none⟩))=r.length+1:=by
     simp only[cntOf,World.cell?,HB.out];simp
    rw[e1];cases r with
    |nil=>obtain rfl:q'=none:=HR.out;simp[cntOf]
    |cons y' r'=>
     obtain⟨b',q2,rfl,hb',_⟩:=HR.out;simp only[cntOf,World.cell?,hb'];simp
theorem qbs{w:World}(c:Array Value)(t o n:Nat)(h:w.heap.size=n):(w.alloc (.cells c t)).cell? ⟨n,o,none⟩=c[o]?:=by
 subst h;simp only[World.cell?,heap_alloc_new];simp
theorem qas{W w:World}(h:Lk W w)(p:Addr):w.cell? p=W.cell? p:=by simp only[World.cell?,h.heap]
theorem qml(mb k:Nat)(cp:Array Value)(a pf pd:Option Addr)(cap:Nat)(xs:List Value)(w:World)(Q:Ending->World->Prop)
  (eg:∀args w,(callFunc k args).run prog w=.ok (.enter k args) w)
  (hQ:∀e w,Q e w->(∃v,e=.returned v)\/(∃ps,e=.panicked ps))
  (hS:∀v w',Q (.returned v) w'->w'.cell? ⟨w.heap.size+4,0,none⟩=some (.func (.func k) #[] cp)/\w'.cell? ⟨w.heap.size+3,0,none⟩=some (.pointer pd))
  (hc:Chn w xs pd)(hx:∀x∈xs,∃t v,x=.iface t v)(hn:0<xs.length)(hm:xs.length<=100000)
  (hK:∀w',Lk ((((((w.alloc (.cells #[.pointer (some ⟨mb,0,none⟩)] 107)).alloc (.cells #[.slice a 0 cap] 426)).alloc (.cells #[.pointer pf] 378)).alloc (.cells #[.pointer pd] 470)).alloc (.cells #[.func (.func k) #[] cp] 450)).alloc (.cells xs.reverse.toArray 116)) w'->
   Calls prog k (#[.slice (some ⟨w.heap.size+5,0,none⟩) xs.length xs.length]++cp) w' Q):
  Calls prog 371 #[.pointer (some ⟨mb,0,none⟩),.slice a 0 cap,.pointer pf,.pointer pd,.func (.func k) #[] cp] w Q:=by
 have HK:=hZ hK;have HQ:=hZ hQ;have HS:=hZ hS;have HV:Hid (∀w',Lk (((((w.alloc (.cells #[.pointer (some ⟨mb,0,none⟩)] 107)).alloc (.cells #[.slice a 0 cap] 426)).alloc (.cells #[.pointer pf] 378)).alloc (.cells #[.pointer pd] 470)).alloc (.cells #[.func (.func k) #[] cp] 450)) w'->Calls prog 395 #[.pointer pd] w' fun e w2=>e=.returned (.slice (some ⟨w.heap.size+5,0,none⟩) xs.length xs.length)/\Lk (w'.alloc (.cells xs.reverse.toArray 116)) w2):=fun w' hw=>by
  have h1:Chn w' xs pd:=by
   have hb:∀b,b<w.heap.size->w'.heap[b]? =w.heap[b]?:=fun b hb=>by
    rw[hw.heap,Below.heap_alloc _ _ _ (by simp;omega),Below.heap_alloc _ _ _ (by simp;omega),Below.heap_alloc _ _ _ (by simp;omega),Below.heap_alloc _ _ _ (by simp;omega),Below.heap_alloc _ _ _ hb]
   clear hn hm hK hS HK HS hx hw;induction xs generalizing pd with
   |nil=>exact hc
   |cons x r ih=>
    obtain⟨b,q,e1,e2,e3⟩:=hc;exact⟨b,q,e1,by rw[hb b (Array.getElem?_eq_some_iff.1 e2).1];exact e2,ih q e3⟩
  have h2:=qk8 xs pd w' h1 hx hn hm;have h3:w'.heap.size=w.heap.size+5:=by rw[hw.heap];simp
  rw[h3]at h2;exact h2
 have k4:(((((w.alloc (.cells #[.pointer (some ⟨mb,0,none⟩)] 107)).alloc (.cells #[.slice a 0 cap] 426)).alloc (.cells #[.pointer pf] 378)).alloc (.cells #[.pointer pd] 470)).alloc (.cells #[.func (.func k) #[] cp] 450)).cell? ⟨w.heap.size+4,0,none⟩=some (.func (.func k) #[] cp):=qbs _ _ _ _ (by simp);have k3:(((((w.alloc (.cells #[.pointer (some ⟨mb,0,none⟩)] 107)).alloc (.cells #[.slice a 0 cap] 426)).alloc (.cells #[.pointer pf] 378)).alloc (.cells #[.pointer pd] 470)).alloc (.cells #[.func (.func k) #[] cp] 450)).cell? ⟨w.heap.size+3,0,none⟩=some (.pointer pd):=(qad (by simp) _).trans (qbs _ _ _ _ (by simp));have k2:((((((w.alloc (.cells #[.pointer (some ⟨mb,0,none⟩)] 107)).alloc (.cells #[.slice a 0 cap] 426)).alloc (.cells #[.pointer pf] 378)).alloc (.cells #[.pointer pd] 470)).alloc (.cells #[.func (.func k) #[] cp] 450)).alloc (.cells xs.reverse.toArray 116)).cell? ⟨w.heap.size+4,0,none⟩=some (.func (.func k) #[] cp):=(qad (by simp) _).trans k4;have k1:((((((w.alloc (.cells #[.pointer (some ⟨mb,0,none⟩)] 107)).alloc (.cells #[.slice a 0 cap] 426)).alloc (.cells #[.pointer pf] 378)).alloc (.cells #[.pointer pd] 470)).alloc (.cells #[.func (.func k) #[] cp] 450)).alloc (.cells xs.reverse.toArray 116)).cell? ⟨w.heap.size+3,0,none⟩=some (.pointer pd):=(qad (by simp) _).trans k3;clear hK hQ hS hc hx;go_enter func371,ntmps371
 go_wp2;go_region_held2 (fun w'=>w'.cell? ⟨w.heap.size+4,0,none⟩=some (.func (.func k) #[] cp)/\w'.cell? ⟨w.heap.size+3,0,none⟩=some (.pointer pd)) (first|(exact HS.out _ _ hq)|(exact⟨(qas hl _).trans k2,(qas hl _).trans k1⟩)|go_keep)
  (first|(go_at_call 395;refine(HV.out _ (by exact⟨rfl,rfl,rfl,rfl⟩)).mono ?_;rintro e w2 ⟨rfl,hl⟩)|(go_at_fn k;refine(HK.out _ (by exact⟨hl.heap,hl.tape,hl.os,hl.output⟩)).mono ?_;intro e w3 hq;rcases HQ.out _ _ hq with⟨v,rfl⟩|⟨ps,rfl⟩;rotate_left;(exact⟨rfl,hq⟩)))
 go_wp2;exact hq
end
section
theorem qbk{w:World}{b:Nat}(o:Obj)(i:Nat)(v:Value)(h:b<w.heap.size):((w.alloc o).setCell ⟨b,i,none⟩ v).heap=((w.setCell ⟨b,i,none⟩ v).alloc o).heap:=by
 apply Array.ext_getElem?;intro c;have hs:(w.setCell ⟨b,i,none⟩ v).heap.size=w.heap.size:=qaf;by_cases e:c=b
 ·subst e;rw[Below.heap_alloc _ _ _ (by rw[hs];exact h)];show((w.alloc o).heap.modify c _)[c]? =(w.heap.modify c _)[c]?;rw[Array.getElem?_modify,if_pos rfl,Array.getElem?_modify,if_pos rfl,Below.heap_alloc _ _ _ h]
 ·rw[qaa (a:=⟨b,i,none⟩) c e];rcases Nat.lt_trichotomy c w.heap.size with h1|h1|h1
  ·rw[Below.heap_alloc _ _ _ h1,Below.heap_alloc _ _ _ (by rw[hs];exact h1),qaa (a:=⟨b,i,none⟩) c e]
  ·rw[h1,heap_alloc_new,<-hs,heap_alloc_new]
  ·rw[Array.getElem?_eq_none (by simp;omega),Array.getElem?_eq_none (by simp[hs];omega)]
theorem qtf(mb sb b ku:Nat)(t mo:Int)(sa:Option Addr)(sn sc:Nat)(cu:Array Value)(w:World)(h2:w.cell? ⟨mb,0,none⟩=some (.pointer (some ⟨sb,0,none⟩)))
  (hM:Mt sb t mo 10 w)(h0:0<=t)(ht:t+1<=mo)(hm:mo<=1000000):
  Calls prog 283 #[.pointer (some ⟨mb,0,none⟩),.iface 281 (.pointer (some ⟨b,0,none⟩)),.slice sa sn sc,.func (.func ku) #[] cu] w fun e w'=>
   e=.returned (.func (.func 311) #[] #[.pointer (some ⟨w.heap.size+2,0,none⟩),.pointer (some ⟨w.heap.size,0,none⟩),.pointer (some ⟨w.heap.size+1,0,none⟩)])/\
   Lk ((((w.setCell ⟨sb,0,none⟩ (.int .i64 (t+1))).alloc (.cells #[.slice sa sn sc] 184)).alloc (.cells #[.func (.func ku) #[] cu] 295)).alloc (.cells #[.pointer (some ⟨b,0,none⟩)] 281)) w':=by
 have k2:∀o1 o2,((w.alloc o1).alloc o2).cell? ⟨mb,0,none⟩=some (.pointer (some ⟨sb,0,none⟩)):=fun o1 o2=>(qau (qac h2) o1 o2).trans h2
 have hsl:=hM.lt;have HT:Hid (∀o1 o2,Calls prog 200 #[.pointer (some ⟨sb,0,none⟩),.int .i64 1] ((w.alloc o1).alloc o2) fun e w'=>e=.returned (.tuple #[])/\∃k,w'=(((w.alloc o1).alloc o2).setCell ⟨sb,0,none⟩ (.int .i64 (t+1))).drewN k):=fun o1 o2=>
  qba sb t mo 10 1 _ (by unfold Mt at*;rw[Below.heap_alloc _ _ _ (by simp;omega),Below.heap_alloc _ _ _ hsl];exact hM) h0 ht (by omega) hm
 have ha:∀w,(Instr.typeAssert (.iface 281 (.pointer (some ⟨b,0,none⟩))) 116 281 true).run prog w=.ok (.tuple #[.pointer (some ⟨b,0,none⟩),.bool true]) w:=fun w=>qsd _ w
 clear hM;go_enter func283,ntmps283
 go_wp2_with (go_at_call 200;refine(HT.out _ _).mono ?_;rintro e w2 ⟨rfl,n,rfl⟩)
 go_wp2_with (go_at_call 273;refine(qbi _ _).mono ?_;rintro e w2 ⟨rfl,hww⟩;obtain rfl:=hww.symm)
 go_wp2;go_ret;exact⟨by simp,⟨rfl,rfl,rfl,rfl⟩⟩
theorem qqf(mb sb ty ku:Nat)(v:Value)(t mo:Int)(sa:Option Addr)(sn sc:Nat)(cu:Array Value)(w:World)(h2:w.cell? ⟨mb,0,none⟩=some (.pointer (some ⟨sb,0,none⟩)))
  (hM:Mt sb t mo 10 w)(h0:0<=t)(ht:t+1<=mo)(hm:mo<=1000000)(hty:ty≠281):
  Calls prog 283 #[.pointer (some ⟨mb,0,none⟩),.iface ty v,.slice sa sn sc,.func (.func ku) #[] cu] w fun e w'=>
   e=.panicked (stopP (stopV 6))/\Below w.heap.size (w.setCell ⟨sb,0,none⟩ (.int .i64 (t+1))) w':=by
 have k2:∀o1 o2,((w.alloc o1).alloc o2).cell? ⟨mb,0,none⟩=some (.pointer (some ⟨sb,0,none⟩)):=fun o1 o2=>(qau (qac h2) o1 o2).trans h2
 have hsl:=hM.lt;have HT:Hid (∀o1 o2,Calls prog 200 #[.pointer (some ⟨sb,0,none⟩),.int .i64 1] ((w.alloc o1).alloc o2) fun e w'=>e=.returned (.tuple #[])/\∃k,w'=(((w.alloc o1).alloc o2).setCell ⟨sb,0,none⟩ (.int .i64 (t+1))).drewN k):=fun o1 o2=>
  qba sb t mo 10 1 _ (by unfold Mt at*;rw[Below.heap_alloc _ _ _ (by simp;omega),Below.heap_alloc _ _ _ hsl];exact hM) h0 ht (by omega) hm
 have ha:∀w,(Instr.typeAssert (.iface ty v) 116 281 true).run prog w=.ok (.tuple #[.pointer none,.bool false]) w:=fun w=>qcz _ _ hty w
 clear hM;go_enter func283,ntmps283
 go_wp2_with (go_at_call 200;refine(HT.out _ _).mono ?_;rintro e w2 ⟨rfl,n,rfl⟩)
 go_wp2_with (go_at_call 273;refine(qbh _ _).mono ?_;rintro e w2 ⟨rfl,o,rfl⟩)
 refine⟨rfl,rfl,?_⟩;have e0:(w.setCell ⟨sb,0,none⟩ (.int .i64 (t+1))).heap.size=w.heap.size:=qaf;have b1:=(((Below.refl w.heap.size (w.setCell ⟨sb,0,none⟩ (.int .i64 (t+1)))).alloc (by rw[e0];exact Nat.le_refl _) (.cells #[.slice sa sn sc] 184)).alloc (by simp) (.cells #[.func (.func ku) #[] cu] 295));exact((qbq b1 n).alloc (by simp;omega) _).alloc (by simp;omega) _
theorem qqe(mb sb ku:Nat)(v:Value)(t:Int)(sa:Option Addr)(sn sc:Nat)(cu:Array Value)(w:World)(h2:w.cell? ⟨mb,0,none⟩=some (.pointer (some ⟨sb,0,none⟩)))
  (hM:Mt sb t t 10 w)(h0:0<=t)(hm:t<=1000000):
  Calls prog 283 #[.pointer (some ⟨mb,0,none⟩),v,.slice sa sn sc,.func (.func ku) #[] cu] w fun e w'=>
   e=.panicked (stopP (stopV 10))/\Below w.heap.size (w.setCell ⟨sb,0,none⟩ (.int .i64 t)) w':=by
 have k2:∀o1 o2,((w.alloc o1).alloc o2).cell? ⟨mb,0,none⟩=some (.pointer (some ⟨sb,0,none⟩)):=fun o1 o2=>(qau (qac h2) o1 o2).trans h2
 have hsl:=hM.lt;have HT:Hid (∀o1 o2,Calls prog 200 #[.pointer (some ⟨sb,0,none⟩),.int .i64 1] ((w.alloc o1).alloc o2) fun e w'=>e=.panicked (stopP (stopV 10))/\Below (((w.alloc o1).alloc o2)).heap.size (((w.alloc o1).alloc o2).setCell ⟨sb,0,none⟩ (.int .i64 t)) w'):=fun o1 o2=>
  qa1 sb t t 10 1 _ (by unfold Mt at*;rw[Below.heap_alloc _ _ _ (by simp;omega),Below.heap_alloc _ _ _ hsl];exact hM) h0 (by omega) (by omega) (by omega) hm
 clear hM;go_enter func283,ntmps283
 go_wp2_with (go_at_call 200;refine(HT.out _ _).mono ?_;rintro e w2 ⟨rfl,hb⟩)
 refine⟨rfl,rfl,?_⟩;have e0:(w.setCell ⟨sb,0,none⟩ (.int .i64 t)).heap.size=w.heap.size:=qaf;refine⟨hb.os,hb.tape,hb.output,by rw[e0];have:=hb.size;simp only[qaf]at this;simp at this;omega,fun c hc=>?_⟩;rw[hb.block c (by simp;omega),qbk _ _ _ (by simp;omega),Below.heap_alloc _ _ _ (by simp only[qaf];simp;omega)];by_cases e:c=sb
 ·subst e;show((w.alloc _).heap.modify c _)[c]? =(w.heap.modify c _)[c]?;rw[Array.getElem?_modify,if_pos rfl,Array.getElem?_modify,if_pos rfl,Below.heap_alloc _ _ _ hc]
 ·rw[qaa (a:=⟨sb,0,none⟩) c e,qaa (a:=⟨sb,0,none⟩) c e,Below.heap_alloc _ _ _ hc]
def Outs(w:World):Nat->Option Addr->Nat->Prop
 |0,p,fb=>p=some ⟨fb,0,none⟩
 |n+1,p,fb=>∃b q,p=some ⟨b,0,none⟩/\w.cell? ⟨b,1,none⟩=some (.pointer q)/\Outs w n q fb
theorem qdt(u i fb g o n cap:Nat)(p:Option Addr)(w:World)(h:Outs w u p fb)(hf:w.cell? ⟨fb,0,none⟩=some (.slice (some ⟨g,o,none⟩) n cap))(hi:i<n)(hu:u<=1000000000)(_hn:n<=1000000000):
  Calls prog 367 #[.pointer p,.agg #[.int .i64 (u:Int),.int .i64 (i:Int)]] w fun e w'=>e=.returned (.pointer (some ⟨g,o+i,none⟩))/\Lk (w.alloc (.cells #[.int .i64 (u:Int),.int .i64 (i:Int)] 395)) w':=by
 have HO:=hZ h;have kf:∀x,(w.alloc x).cell? ⟨fb,0,none⟩=some (.slice (some ⟨g,o,none⟩) n cap):=fun x=>(qad (qac hf) x).trans hf
 have hin:(i:Int)<(n:Int):=by omega
 clear h;go_enter func367,ntmps367
 go_wp2;go_loopw [0,7] (fun a b wr=>∃r q,r<=u/\b=.int .i64 ((u:Int)-(r:Int))/\a=.pointer q/\Outs w r q fb/\wr=w.alloc (.cells #[.int .i64 (u:Int),.int .i64 (i:Int)] 395)) (fun _ b _=>u-(intOf b).toNat)
 case atStart=>exact⟨u,p,Nat.le_refl _,by simp,rfl,HO.out,rfl⟩
 case round=>
  obtain⟨r,q,hr,rfl,rfl,ho,rfl⟩:=hrel;cases r with
  |zero=>
   obtain rfl:q=some ⟨fb,0,none⟩:=ho;have hlt:¬((u:Int)-((0:Nat):Int)<(u:Int)):=by omega
   go_wp2;go_quiet (fail)
   go_wp2;go_ret;exact⟨rfl,⟨rfl,rfl,rfl,rfl⟩⟩
  |succ r=>
   obtain⟨b,q',rfl,hb,ho'⟩:=ho;have kb:∀x,(w.alloc x).cell? ⟨b,1,none⟩=some (.pointer q'):=fun x=>(qad (qac hb) x).trans hb
   have hlt:(u:Int)-((r+1:Nat):Int)<(u:Int):=by omega
   have HO':=hZ ho';clear ho';go_wp2;go_roundw
   case rel=>exact⟨r,q',by omega,by go_num,by first|trivial|rfl,HO'.out,by first|trivial|rfl⟩
   case measure=>simp[intOf];omega
end
section
theorem qkl{W w:World}{B:Nat}{w0:World}(h:Lk W w)(b:Below B w0 W):Below B w0 w:=⟨h.os.trans b.os,h.tape.trans b.tape,h.output.trans b.output,by rw[h.heap];exact b.size,fun k hk=>by rw[h.heap];exact b.block k hk⟩
theorem local1(q u i fb g o n cap t k:Nat)(v:Value)(p:Option Addr)(cp:Array Value)(w:World)(Q:Ending->World->Prop)
  (eg:∀args w,(callFunc k args).run prog w=.ok (.enter k args) w)
  (hQ:∀e w,Q e w->(∃v,e=.returned v)\/(∃ps,e=.panicked ps))
  (h0:w.cell? ⟨q,0,none⟩=some (.int .i64 (u:Int)))(h1:w.cell? ⟨q,1,none⟩=some (.int .i64 (i:Int)))
  (h:Outs w u p fb)(hf:w.cell? ⟨fb,0,none⟩=some (.slice (some ⟨g,o,none⟩) n cap))(hi:i<n)(hu:u<=1000000000)(hn:n<=1000000000)(hx:w.cell? ⟨g,o+i,none⟩=some (.iface t v))
  (hK:∀w',Below w.heap.size w w'->Calls prog k (#[.iface t v]++cp) w' Q):
  Calls prog 366 #[.pointer p,.func (.func k) #[] cp,.pointer (some ⟨q,0,none⟩)] w Q:=by
 have HK:=hZ hK;have HQ:=hZ hQ;have HV:=hZ (qdt u i fb g o n cap p w h hf hi hu hn);clear hK hQ h;go_enter func366,ntmps366
 go_wp2_with (go_at_call 367;refine HV.out.mono ?_;rintro e w2 ⟨rfl,hl⟩;have kx:w2.cell? ⟨g,o+i,none⟩=some (.iface t v):=(qas hl _).trans ((qad (qac hx) _).trans hx);have HL:=hZ hl;clear hl)
 go_wp2_with (go_at_fn k;refine(HK.out _ (qkl HL.out ((Below.refl _ _).alloc (Nat.le_refl _) _))).mono ?_;intro e w3 hq)
 all_goals first|exact hq|exact⟨rfl,hq⟩|(rcases HQ.out _ _ hq with⟨v,h⟩|⟨ps,h⟩ <;> cases h)
theorem qnu(q u i fb g o n cap:Nat)(x y:Value)(p:Option Addr)(w:World)(hxx:∃t v,x=.iface t v)
  (h0:w.cell? ⟨q,0,none⟩=some (.int .i64 (u:Int)))(h1:w.cell? ⟨q,1,none⟩=some (.int .i64 (i:Int)))
  (h:Outs w u p fb)(hf:w.cell? ⟨fb,0,none⟩=some (.slice (some ⟨g,o,none⟩) n cap))(hi:i<n)(hu:u<=1000000000)(hn:n<=1000000000)(hx:w.cell? ⟨g,o+i,none⟩=some y)(hyy:∃t v,y=.iface t v)(hz:w.frozen? ⟨g,o+i,none⟩=false):
  Calls prog 400 #[.pointer p,x,.pointer (some ⟨q,0,none⟩)] w fun e w'=>e=.returned (.tuple #[])/\∃w1,Below w.heap.size w w1/\w'=w1.setCell ⟨g,o+i,none⟩ x:=by
 obtain⟨t,v,rfl⟩:=hxx;obtain⟨t',v',rfl⟩:=hyy;have HV:=hZ (qdt u i fb g o n cap p w h hf hi hu hn);clear h;go_enter func400,ntmps400
 go_wp2_with (go_at_call 367;refine HV.out.mono ?_;rintro e w2 ⟨rfl,hl⟩;refine Hid.out ?_)
 have kx:w2.cell? ⟨g,o+i,none⟩=some (.iface t' v'):=(qas hl _).trans ((qad (qac hx) _).trans hx);have kz:w2.frozen? ⟨g,o+i,none⟩=false:=by
  simp only[World.frozen?,hl.heap];have:=hz;simp only[World.frozen?]at this;rw[Below.heap_alloc _ _ _ (qac hx)];exact this
 have HL:=hZ hl;clear hl;refine hZ ?_;go_wp2;go_end0;exact⟨rfl,w2,qkl HL.out ((Below.refl _ _).alloc (Nat.le_refl _) _),rfl⟩
theorem qkj(k:Nat)(p:Option Addr)(cp:Array Value)(w:World)(Q:Ending->World->Prop)
  (eg:∀args w,(callFunc k args).run prog w=.ok (.enter k args) w)
  (hQ:∀e w,Q e w->(∃v,e=.returned v)\/(∃ps,e=.panicked ps))
  (hK:∀w',Lk w w'->Calls prog k (#[.iface 379 (.agg #[])]++cp) w' Q):
  Calls prog 235 #[.pointer p,.func (.func k) #[] cp] w Q:=by
 have HK:=hZ hK;have HQ:=hZ hQ;clear hK hQ;go_enter func235,ntmps235
 go_wp2_with (go_at_fn k;refine(HK.out _ (by exact⟨rfl,rfl,rfl,rfl⟩)).mono ?_;intro e w3 hq)
 all_goals first|exact hq|exact⟨rfl,hq⟩|(rcases HQ.out _ _ hq with⟨v,h⟩|⟨ps,h⟩ <;> cases h)
theorem run1(q mb t:Nat)(v y:Value)(w:World)(h1:w.cell? ⟨q,0,none⟩=some (.pointer (some ⟨mb,0,none⟩)))(h2:w.cell? ⟨mb,3,none⟩=some y)(h3:w.frozen? ⟨mb,3,none⟩=false):
  Calls prog 230 #[.iface t v,.pointer (some ⟨q,0,none⟩)] w fun e w'=>e=.returned .nilFunc/\w'=w.setCell ⟨mb,3,none⟩ (.iface t v):=by
 go_enter func230,ntmps230
 go_wp2;go_ret;exact⟨rfl,rfl⟩
theorem qmb(q1 q2 q3 mb cb k:Nat)(t mo:Int)(p:Option Addr)(cp:Array Value)(w:World)(Q:Ending->World->Prop)
  (eg:∀args w,(callFunc k args).run prog w=.ok (.enter k args) w)
  (hQ:∀e w,Q e w->(∃v,e=.returned v)\/(∃ps,e=.panicked ps))
  (h1:w.cell? ⟨q1,0,none⟩=some (.pointer (some ⟨mb,0,none⟩)))(h2:w.cell? ⟨mb,1,none⟩=some (.pointer (some ⟨cb,0,none⟩)))(hM:Mt cb t mo 11 w)(h0:0<=t)(ht:t+1<=mo)(hm:mo<=1000000)
  (hK:∀w',Lk (((w.setCell ⟨cb,0,none⟩ (.int .i64 (t+1))).alloc (.cells #[.pointer p] 378)).alloc (.cells #[.func (.func 383) #[] #[.pointer (some ⟨q2,0,none⟩),.pointer (some ⟨q3,0,none⟩),.pointer (some ⟨w.heap.size,0,none⟩)]] 300)) w'->
   Calls prog k (#[.iface 281 (.pointer (some ⟨w.heap.size+1,0,none⟩))]++cp) w' Q):
  Calls prog 382 #[.pointer p,.func (.func k) #[] cp,.pointer (some ⟨q1,0,none⟩),.pointer (some ⟨q2,0,none⟩),.pointer (some ⟨q3,0,none⟩)] w Q:=by
 have HK:=hZ hK;have HQ:=hZ hQ;have k1:∀x,(w.alloc x).cell? ⟨q1,0,none⟩=some (.pointer (some ⟨mb,0,none⟩)):=fun x=>(qad (qac h1) x).trans h1
 have k2:∀x,(w.alloc x).cell? ⟨mb,1,none⟩=some (.pointer (some ⟨cb,0,none⟩)):=fun x=>(qad (qac h2) x).trans h2
 have hsl:=hM.lt;have HT:Hid (∀x,Calls prog 200 #[.pointer (some ⟨cb,0,none⟩),.int .i64 1] (w.alloc x) fun e w'=>e=.returned (.tuple #[])/\∃k,w'=((w.alloc x).setCell ⟨cb,0,none⟩ (.int .i64 (t+1))).drewN k):=fun x=>
  qba cb t mo 11 1 _ (by unfold Mt at*;rw[Below.heap_alloc _ _ _ hsl];exact hM) h0 ht (by omega) hm
 clear hK hQ hM;go_enter func382,ntmps382
 go_wp2_with (go_at_call 200;refine(HT.out _).mono ?_;rintro e w2 ⟨rfl,n,rfl⟩)
 go_wp2_with (go_at_fn k;refine(HK.out _ (by exact⟨rfl,rfl,rfl,rfl⟩)).mono ?_;intro e w3 hq)
 all_goals first|exact hq|exact⟨rfl,hq⟩|(rcases HQ.out _ _ hq with⟨v,h⟩|⟨ps,h⟩ <;> cases h)
theorem qji(q1 q2 q3 mb cb k:Nat)(t:Int)(p:Option Addr)(cp:Array Value)(w:World)
  (h1:w.cell? ⟨q1,0,none⟩=some (.pointer (some ⟨mb,0,none⟩)))(h2:w.cell? ⟨mb,1,none⟩=some (.pointer (some ⟨cb,0,none⟩)))(hM:Mt cb t t 11 w)(h0:0<=t)(hm:t<=1000000):
  Calls prog 382 #[.pointer p,.func (.func k) #[] cp,.pointer (some ⟨q1,0,none⟩),.pointer (some ⟨q2,0,none⟩),.pointer (some ⟨q3,0,none⟩)] w fun e w'=>e=.panicked (stopP (stopV 11))/\Below w.heap.size (w.setCell ⟨cb,0,none⟩ (.int .i64 t)) w':=by
 have k1:∀x,(w.alloc x).cell? ⟨q1,0,none⟩=some (.pointer (some ⟨mb,0,none⟩)):=fun x=>(qad (qac h1) x).trans h1
 have k2:∀x,(w.alloc x).cell? ⟨mb,1,none⟩=some (.pointer (some ⟨cb,0,none⟩)):=fun x=>(qad (qac h2) x).trans h2
 have hsl:=hM.lt;have HT:Hid (∀x,Calls prog 200 #[.pointer (some ⟨cb,0,none⟩),.int .i64 1] (w.alloc x) fun e w'=>e=.panicked (stopP (stopV 11))/\Below (w.alloc x).heap.size ((w.alloc x).setCell ⟨cb,0,none⟩ (.int .i64 t)) w'):=fun x=>
  qa1 cb t t 11 1 _ (by unfold Mt at*;rw[Below.heap_alloc _ _ _ hsl];exact hM) h0 (by omega) (by omega) (by omega) hm
 clear hM;go_enter func382,ntmps382
 go_wp2_with (go_at_call 200;refine(HT.out _).mono ?_;rintro e w2 ⟨rfl,hb⟩)
 refine⟨rfl,rfl,?_⟩;refine⟨hb.os,hb.tape,hb.output,by have:=hb.size;simp only[qaf]at this|-;simp at this;omega,fun c hc=>?_⟩;rw[hb.block c (by simp;omega),qbk _ _ _ (by omega),Below.heap_alloc _ _ _ (by simp only[qaf];omega)]
end
section
theorem qkn(q1 q2 q3 k kb ku:Nat)(cp cbs cu:Array Value)(sa pf:Option Addr)(sn sc:Nat)(w:World)(Q:Ending->World->Prop)
  (eg:∀args w,(callFunc k args).run prog w=.ok (.enter k args) w)(eb:∀args w,(callFunc kb args).run prog w=.ok (.enter kb args) w)
  (hQ:∀e w,Q e w->(∃v,e=.returned v)\/(∃ps,e=.panicked ps))
  (hS:∀v w',Q (.returned v) w'->w'.cell? ⟨q1,0,none⟩=some (.func (.func k) #[] cp)/\w'.cell? ⟨q2,0,none⟩=some (.func (.func kb) #[] cbs)/\w'.cell? ⟨q3,0,none⟩=some (.pointer pf))
  (h1:w.cell? ⟨q1,0,none⟩=some (.func (.func k) #[] cp))(h2:w.cell? ⟨q2,0,none⟩=some (.func (.func kb) #[] cbs))(h3:w.cell? ⟨q3,0,none⟩=some (.pointer pf))
  (hB:∀w0,Lk w w0->Calls prog kb (#[.slice sa sn sc]++cbs) w0 fun e w1=>(∃a n c,e=.returned (.slice a n c)/\(w1.cell? ⟨q1,0,none⟩=some (.func (.func k) #[] cp)/\w1.cell? ⟨q2,0,none⟩=some (.func (.func kb) #[] cbs)/\w1.cell? ⟨q3,0,none⟩=some (.pointer pf))/\
    ∀w2,Lk (w1.alloc (.cells #[.slice a n c,.pointer pf] 461)) w2->Calls prog k (#[.pointer (some ⟨w1.heap.size,0,none⟩),.func (.func ku) #[] cu]++cp) w2 Q)\/((∃ps,e=.panicked ps)/\Q e w1)):
  Calls prog 383 #[.slice sa sn sc,.func (.func ku) #[] cu,.pointer (some ⟨q1,0,none⟩),.pointer (some ⟨q2,0,none⟩),.pointer (some ⟨q3,0,none⟩)] w Q:=by
 have HB:=hZ hB;have HQ:=hZ hQ;have HS:=hZ hS;clear hB hQ hS;go_enter func383,ntmps383
 go_wp2;go_region_held2 (fun w'=>w'.cell? ⟨q1,0,none⟩=some (.func (.func k) #[] cp)/\w'.cell? ⟨q2,0,none⟩=some (.func (.func kb) #[] cbs)/\w'.cell? ⟨q3,0,none⟩=some (.pointer pf)) (first|(exact HS.out _ _ hq)|(exact HC.out.1)|(exact⟨(qad (qac HC.out.1.1) _).trans HC.out.1.1,(qad (qac HC.out.1.2.1) _).trans HC.out.1.2.1,(qad (qac HC.out.1.2.2) _).trans HC.out.1.2.2⟩)|go_keep)
  (first|(go_at_fn kb;refine(HB.out _ (by exact⟨rfl,rfl,rfl,rfl⟩)).mono ?_;rintro e w1 (⟨a,n,c,rfl,hc⟩|⟨⟨ps,rfl⟩,hq⟩);rotate_left;(exact⟨rfl,hq⟩);have HC:=hZ hc;clear hc)|(go_at_fn k;refine(HC.out.2 _ (by exact⟨rfl,rfl,rfl,rfl⟩)).mono ?_;intro e w3 hq;rcases HQ.out _ _ hq with⟨v,rfl⟩|⟨ps,rfl⟩;rotate_left;(exact⟨rfl,hq⟩)))
 all_goals(go_wp2;exact hq)
theorem qtb(q1 q2 mb cb n cap:Nat)(a:Option Addr)(t mo:Int)(w:World)
  (h1:w.cell? ⟨q1,0,none⟩=some (.int .i64 (n:Int)))(h2:w.cell? ⟨q2,0,none⟩=some (.pointer (some ⟨mb,0,none⟩)))(h3:w.cell? ⟨mb,1,none⟩=some (.pointer (some ⟨cb,0,none⟩)))(hM:Mt cb t mo 11 w)(h0:0<=t)(ht:t+n<=mo)(hm:mo<=1000000):
  Calls prog 363 #[.slice a n cap,.pointer (some ⟨q1,0,none⟩),.pointer (some ⟨q2,0,none⟩)] w fun e w'=>e=.returned (.slice a n cap)/\Lk (w.setCell ⟨cb,0,none⟩ (.int .i64 (t+n))) w':=by
 have HT:Hid (∀w',Lk w w'->Calls prog 200 #[.pointer (some ⟨cb,0,none⟩),.int .i64 (n:Int)] w' fun e w2=>e=.returned (.tuple #[])/\∃k,w2=(w'.setCell ⟨cb,0,none⟩ (.int .i64 (t+n))).drewN k):=fun w' hl=>
  qba cb t mo 11 n w' (by unfold Mt at*;rw[hl.heap];exact hM) h0 ht (by omega) hm
 clear hM;have hee:((n:Int)==(n:Int))=true:=by simp
 go_enter func363,ntmps363
 go_wp2_with (go_at_call 273;refine(qbi _ _).mono ?_;rintro e w2 ⟨rfl,hww⟩;obtain rfl:=hww.symm)
 refine qai 5 (by kernel_rfl) (by kernel_rfl) ?_;simp only[List.take_succ_cons,List.take_zero,List.drop_succ_cons,List.drop_zero];repeat still_step
 refine wpStill_nil ?_;go_wp2_with (go_at_call 200;refine(HT.out _ (by exact⟨rfl,rfl,rfl,rfl⟩)).mono ?_;rintro e w2 ⟨rfl,k,rfl⟩)
 go_wp2;go_ret;exact⟨rfl,⟨rfl,rfl,rfl,rfl⟩⟩
theorem qp8(q1 q2 n l cap:Nat)(a:Option Addr)(w:World)(h1:w.cell? ⟨q1,0,none⟩=some (.int .i64 (n:Int)))(hn:l≠n):
  Calls prog 363 #[.slice a l cap,.pointer (some ⟨q1,0,none⟩),.pointer (some ⟨q2,0,none⟩)] w fun e w'=>e=.panicked (stopP (stopV 7))/\∃o,w'=w.alloc o:=by
 have hee:((l:Int)==(n:Int))=false:=by simp;omega
 go_enter func363,ntmps363
 go_wp2_with (go_at_call 273;refine(qbh _ _).mono ?_;rintro e w2 ⟨rfl,o,rfl⟩)
 exact⟨rfl,rfl,o,rfl⟩
theorem qp7(q1 q2 mb cb n cap:Nat)(a:Option Addr)(t mo:Int)(w:World)
  (h1:w.cell? ⟨q1,0,none⟩=some (.int .i64 (n:Int)))(h2:w.cell? ⟨q2,0,none⟩=some (.pointer (some ⟨mb,0,none⟩)))(h3:w.cell? ⟨mb,1,none⟩=some (.pointer (some ⟨cb,0,none⟩)))(hM:Mt cb t mo 11 w)(h0:0<=t)(ht:mo<t+n)(htm:t<=mo)(hm:mo<=1000000):
  Calls prog 363 #[.slice a n cap,.pointer (some ⟨q1,0,none⟩),.pointer (some ⟨q2,0,none⟩)] w fun e w'=>e=.panicked (stopP (stopV 11))/\Below w.heap.size (w.setCell ⟨cb,0,none⟩ (.int .i64 mo)) w':=by
 have HT:Hid (∀w',Lk w w'->Calls prog 200 #[.pointer (some ⟨cb,0,none⟩),.int .i64 (n:Int)] w' fun e w2=>e=.panicked (stopP (stopV 11))/\Below w'.heap.size (w'.setCell ⟨cb,0,none⟩ (.int .i64 mo)) w2):=fun w' hl=>
  qa1 cb t mo 11 n w' (by unfold Mt at*;rw[hl.heap];exact hM) h0 ht (by omega) htm hm
 clear hM;have hee:((n:Int)==(n:Int))=true:=by simp
 go_enter func363,ntmps363
 go_wp2_with (go_at_call 273;refine(qbi _ _).mono ?_;rintro e w2 ⟨rfl,hww⟩;obtain rfl:=hww.symm)
 refine qai 5 (by kernel_rfl) (by kernel_rfl) ?_;simp only[List.take_succ_cons,List.take_zero,List.drop_succ_cons,List.drop_zero];repeat still_step
 refine wpStill_nil ?_;go_wp2_with (go_at_call 200;refine(HT.out _ (by exact⟨rfl,rfl,rfl,rfl⟩)).mono ?_;rintro e w2 ⟨rfl,hb⟩)
 exact⟨rfl,rfl,hb.os,hb.tape,hb.output,hb.size,hb.block⟩
open Sc
structure Gh.ext (G H:Gh) (n:Nat):Prop where
 le:G.le H
 E:H.E=G.E
 B:H.B=G.B
 I:∀{b:Nat},b<n->H.I b=G.I b
 W:H.W=G.W
 F:H.F=G.F
theorem Gh.ext.refl(G:Gh)(n:Nat):G.ext G n:=⟨Gh.le.refl G,rfl,rfl,fun _=>rfl,rfl,rfl⟩
theorem Gh.ext.trans{G H L:Gh}{n k:Nat}(a:G.ext H n)(b:H.ext L k)(h:n<=k):G.ext L n:=⟨a.le.trans b.le,b.E.trans a.E,b.B.trans a.B,fun hb=>(b.I (by omega)).trans (a.I hb),b.W.trans a.W,b.F.trans a.F⟩
theorem Gh.ext.mut{G H:Gh}{n:Nat}(a:G.ext H n):H.mut=G.mut:=by simp only[Gh.mut,Gh.rows,a.le.mb,a.le.sb,a.le.cb,a.le.mp,a.E,a.B]
theorem Inv.ext_alloc{G:Gh}{S:Sub}{m:Mc}{w:World}(i:Inv G S m w)(o:Obj):G.ext (G.add w.heap.size o) w.heap.size:=
 ⟨Gh.le_add (i.fresh (Nat.le_refl _)),rfl,rfl,fun {b} hb=>if_neg (by omega),rfl,rfl⟩
theorem Inv.ext_newObj{G:Gh}{S:Sub}{m:Mc}{w:World}(i:Inv G S m w)(o:Obj):G.ext ((G.add w.heap.size o).id w.heap.size) w.heap.size:=
 ⟨i.le_newObj o,rfl,rfl,fun {b} hb=>if_neg (by omega),rfl,rfl⟩
theorem VRep.form{G:Gh}{v:Vl}{x:Value}(h:VRep G v x):∃t y,x=.iface t y:=by cases h <;> exact⟨_,_,rfl⟩
def VsRep(G:Gh)(vs:List Vl)(xs:List Value):Prop:=vs.length=xs.length/\∀(i:Nat) (v:Vl) (x:Value),vs[i]? =some v->xs[i]? =some x->VRep G v x
theorem VsRep.mono{G H:Gh}(h:G.le H){vs:List Vl}{xs:List Value}(k:VsRep G vs xs):VsRep H vs xs:=⟨k.1,fun i v x a b=>(k.2 i v x a b).mono h⟩
theorem qek(m:Mc)(v:Vl)(r:List Vl)(rest:Vl):mkList m (v::r) rest=(.pair (mkList m r rest).2.ids v (mkList m r rest).1,{(mkList m r rest).2 with ids:=(mkList m r rest).2.ids+1}):=rfl
theorem qc9(G:Gh)(S:Sub)(m:Mc)(w:World)(a:Option Addr)(cap:Nat)(vs:List Vl)(xs:List Value)(rest:Vl)(r:Value)(i:Inv G S m w)(hv:VsRep G vs xs)(hr:VRep G rest r)
  (hrow:xs=[]\/∃g o,a=some ⟨g,o,none⟩/\∀(j:Nat) (h:j<xs.length),w.cell? ⟨g,o+j,none⟩=some xs[j])(hn:xs.length<=1000000):
  Calls prog 91 #[.slice a xs.length cap,r] w fun e w'=>∃H x,e=.returned x/\G.ext H w.heap.size/\Inv H S (mkList m vs rest).2 w'/\VRep H (mkList m vs rest).1 x/\Below w.heap.size w w':=by
 have HV:=hZ hv;have HR:=hZ hr;have HRow:=hZ hrow;have HI:=hZ i;clear hv hr hrow i;go_enter func91,ntmps91
 go_wp2;go_loopw [5,1] (fun c x wr=>∃(k:Nat) (H:Gh),k<=xs.length/\c=.int .i64 ((k:Int)-1)/\G.ext H w.heap.size/\Inv H S (mkList m (vs.drop k) rest).2 wr/\VRep H (mkList m (vs.drop k) rest).1 x/\Below w.heap.size w wr) (fun c _ _=>(intOf c+1).toNat)
 case atStart=>
  have e0:vs.drop xs.length=[]:=by rw[<-HV.out.1];simp
  exact⟨xs.length,G,Nat.le_refl _,by first|rfl|go_num,Gh.ext.refl _ _,by rw[e0];exact HI.out,by rw[e0];exact HR.out,Below.refl _ _⟩
 case round=>
  obtain⟨k,H,hk,rfl,hle,hi,hx,hbl⟩:=hrel;have HX:=hZ hx;have HB:=hZ hbl;have HLe:=hZ hle;have HI':=hZ hi;clear hx hbl hle hi;by_cases hk0:0<k
  ·obtain⟨j,rfl⟩:∃j,k=j+1:=⟨k-1,by omega⟩;have hj:j<xs.length:=by omega
   have HRw:=HRow.out;rcases HRw with h0|⟨g,o,rfl,hc⟩
   ·rw[h0]at hj;simp at hj
   have hcj:=hc j hj;have hcj':wr.cell? ⟨g,o+j,none⟩=some xs[j]:=(HB.out.cell (p:=⟨g,o+j,none⟩) (qac hcj)).trans hcj;have hjv:j<vs.length:=by rw[HV.out.1];exact hj
   have HE:=hZ (HV.out.2 j vs[j] xs[j] (List.getElem?_eq_getElem hjv) (List.getElem?_eq_getElem hj));obtain⟨tp,p,hvj⟩:=HE.out.form;obtain⟨tp1,p1,rfl⟩:=HX.out.form;have HVj:=hZ hvj;rw[hvj]at hcj';clear hcj hc hvj;have hjn:(j:Int)<(xs.length:Int):=by omega
   go_wp2;go_roundw
   case rel=>
    have ho:=HI'.out.newObj (.cells #[.iface tp p,.iface tp1 p1] 252);have hle:=HI'.out.ext_newObj (.cells #[.iface tp p,.iface tp1 p1] 252);have hat:=HI'.out.at_newObj (.cells #[.iface tp p,.iface tp1 p1] 252);refine⟨j,_,by omega,by first|rfl|go_num,HLe.out.trans hle HB.out.size,?_,?_,HB.out.alloc HB.out.size _⟩
    ·rw[List.drop_eq_getElem_cons hjv,qek];exact ho
    ·rw[List.drop_eq_getElem_cons hjv,qek];refine .pair _ _ _ _ _ _ hat (Gh.add_at _ _ _) ?_ (HX.out.mono hle.le);have:=(HE.out.mono HLe.out.le).mono hle.le;rw[HVj.out]at this;exact this
   case measure=>simp[intOf]
  ·have hk1:k=0:=by omega
   have HK:=hZ hk1;clear hk1;have hq:(k:Int)-1<0:=by omega
   go_wp2;go_ret;have h1:=HI'.out;have h2:=HX.out;rw[HK.out,List.drop_zero]at h1 h2;exact⟨H,_,rfl,HLe.out,h1,h2,HB.out⟩
theorem qta(G:Gh)(S:Sub)(m:Mc)(w:World)(q n cap:Nat)(a:Option Addr)(vs:List Vl)(xs:List Value)(i:Inv G S m w)(hq:G.mbox q)(hv:VsRep G vs xs)(hn:xs.length=n)
  (hrow:xs=[]\/∃g o,a=some ⟨g,o,none⟩/\∀(j:Nat) (h:j<xs.length),w.cell? ⟨g,o+j,none⟩=some xs[j])(hg:∀g o,a=some ⟨g,o,none⟩->xs≠[]->g≠G.cb)(hnc:n<=1000000)(ht:(m.cells:Int)+(1+n)<=S.quota):
  Calls prog 358 #[.slice a n cap,.pointer (some ⟨q,0,none⟩)] w fun e w'=>∃H B x,e=.returned (.slice (some ⟨B,0,none⟩) 1 1)/\G.ext H w.heap.size/\Inv H S (mkList {m with cells:=m.cells+(1+n)} vs .nil).2 w'/\VRep H (mkList {m with cells:=m.cells+(1+n)} vs .nil).1 x/\w'.heap[B]? =some (.cells #[x] 116 (0,0))/\w.heap.size<=B/\H.I B=none:=by
 subst hn;have h1:w.cell? ⟨q,0,none⟩=some (.pointer (some ⟨G.mb,0,none⟩)):=by rw[i.cell hq];rfl
 obtain⟨gv,wp,hma,_⟩:=i.ma;have h2:w.cell? ⟨G.mb,1,none⟩=some (.pointer (some ⟨G.cb,0,none⟩)):=by simp[World.cell?,hma]
 have hT:=qba G.cb m.cells S.quota 11 (1+(xs.length:Int)) w i.ce (by omega) ht (by omega) (by have:=i.cl.2;omega);have HT:=hZ hT;have hc:=i.cells (m.cells+(1+xs.length)) (by push_cast;omega);have ec:(((m.cells+(1+xs.length):Nat)):Int)=(m.cells:Int)+(1+(xs.length:Int)):=by push_cast;rfl
 rw[ec]at hc;have HL:Hid (∀k,Calls prog 91 #[.slice a xs.length cap,.iface 186 (.agg #[])] ((w.setCell ⟨G.cb,0,none⟩ (.int .i64 ((m.cells:Int)+(1+(xs.length:Int))))).drewN k) fun e w'=>∃H x,e=.returned x/\G.ext H w.heap.size/\Inv H S (mkList {m with cells:=m.cells+(1+xs.length)} vs .nil).2 w'/\VRep H (mkList {m with cells:=m.cells+(1+xs.length)} vs .nil).1 x/\Below w.heap.size (w.setCell ⟨G.cb,0,none⟩ (.int .i64 ((m.cells:Int)+(1+(xs.length:Int))))) w'):=fun k=>by
  have hs:((w.setCell ⟨G.cb,0,none⟩ (.int .i64 ((m.cells:Int)+(1+(xs.length:Int))))).drewN k).heap.size=w.heap.size:=qaf;have:=qc9 G S {m with cells:=m.cells+(1+xs.length)} ((w.setCell ⟨G.cb,0,none⟩ (.int .i64 ((m.cells:Int)+(1+(xs.length:Int))))).drewN k) a cap vs xs .nil (.iface 186 (.agg #[])) (Inv.lk (w:=w.setCell ⟨G.cb,0,none⟩ (.int .i64 ((m.cells:Int)+(1+(xs.length:Int))))) (by exact⟨rfl,rfl,rfl,rfl⟩) hc) hv .nil ?_ hnc
  ·rw[hs]at this;refine this.mono ?_;rintro e w' ⟨H,x,h1,h2,h3,h4,h5⟩;exact⟨H,x,h1,h2,h3,h4,h5.os,h5.tape,h5.output,h5.size,h5.block⟩
  ·rcases hrow with h|⟨g,o,rfl,h⟩
   ·exact .inl h
   ·by_cases hx:xs=[]
    ·exact .inl hx
    ·refine .inr ⟨g,o,rfl,fun j hj=>?_⟩;rw[qa6,qag (hg g o rfl hx)];exact h j hj
 clear hT hc hv hrow hg i hma;go_enter func358,ntmps358
 go_wp2_with (go_at_call 200;refine HT.out.mono ?_;rintro e w2 ⟨rfl,k,rfl⟩)
 go_wp2_with (go_at_call 91;refine(HL.out _).mono ?_;rintro e w2 ⟨H,x,rfl,hH⟩;obtain⟨tx,px,rfl⟩:=hH.2.2.1.form;have HH:=hZ hH;clear hH)
 go_wp2;go_ret;obtain⟨e1,e2,e3,e4⟩:=HH.out;have hs:w.heap.size<=w2.heap.size:=by have:=e4.size;simp only[qaf]at this;exact this
 exact⟨H,w2.heap.size,.iface tx px,rfl,e1,e2.below ((Below.refl _ _).alloc (Nat.le_refl _) _),e3,heap_alloc_new _ _,hs,e2.fresh (Nat.le_refl _)⟩
theorem qp6(q mb cb n cap:Nat)(a:Option Addr)(t mo:Int)(w:World)(h1:w.cell? ⟨q,0,none⟩=some (.pointer (some ⟨mb,0,none⟩)))(h2:w.cell? ⟨mb,1,none⟩=some (.pointer (some ⟨cb,0,none⟩)))(hM:Mt cb t mo 11 w)(h0:0<=t)(ht:mo<t+(1+n))(htm:t<=mo)(hm:mo<=1000000)(hn:n<=1000000):
  Calls prog 358 #[.slice a n cap,.pointer (some ⟨q,0,none⟩)] w fun e w'=>e=.panicked (stopP (stopV 11))/\Below w.heap.size (w.setCell ⟨cb,0,none⟩ (.int .i64 mo)) w':=by
 have HT:=hZ (qa1 cb t mo 11 (1+(n:Int)) w hM h0 ht (by omega) htm hm);clear hM;go_enter func358,ntmps358
 go_wp2_with (go_at_call 200;refine HT.out.mono ?_;rintro e w2 ⟨rfl,hb⟩)
 exact⟨rfl,rfl,hb.os,hb.tape,hb.output,hb.size,hb.block⟩
end
section
open Sc
def stopW(vd:Nat)(m:Mc):Value:=.iface 166 (.agg #[.int .i64 (vd:Int),.string (if vd=14 then⟨m.raised.toArray⟩else⟨#[]⟩)])
structure Cnt (G:Gh) (S:Sub) (m:Mc) (w:World):Prop where
 st:Mt G.sb m.steps S.fuel 10 w
 ce:Mt G.cb m.cells S.quota 11 w
 fo:w.os=G.W.os/\w.tape=G.W.tape/\w.output=G.W.output
 ff:∀{b:Nat},G.F b->w.heap[b]? =G.W.heap[b]?
 mb:∃gv wp,w.heap[G.mb]? =some (.cells #[bp G.sb,bp G.cb,.map (some G.mp),gv,wp] 119 (0,0))
structure Gh.up (G H:Gh):Prop where
 le:G.le H
 W:H.W=G.W
 F:H.F=G.F
theorem Gh.up.refl(G:Gh):G.up G:=⟨Gh.le.refl G,rfl,rfl⟩
theorem Gh.up.trans{G H L:Gh}(a:G.up H)(b:H.up L):G.up L:=⟨a.le.trans b.le,b.W.trans a.W,b.F.trans a.F⟩
theorem Gh.ext.up{G H:Gh}{n:Nat}(h:G.ext H n):G.up H:=⟨h.le,h.W,h.F⟩
theorem Inv.cnt{G:Gh}{S:Sub}{m:Mc}{w:World}(i:Inv G S m w):Cnt G S m w:=⟨i.st,i.ce,i.fo,fun h=>(i.ff h).1,by obtain⟨gv,wp,h,_⟩:=i.ma;exact⟨gv,_,h⟩⟩
theorem Cnt.below{G:Gh}{S:Sub}{m:Mc}{w w':World}(c:Cnt G S m w)(hf:∀{b:Nat},G.F b->b<w.heap.size){n:Nat}(hn:w.heap.size<=n)(h:Below n w w'):Cnt G S m w':=
 ⟨c.st.keep (h.block _ (Nat.lt_of_lt_of_le c.st.lt hn)),c.ce.keep (h.block _ (Nat.lt_of_lt_of_le c.ce.lt hn)),by rw[h.os,h.tape,h.output];exact c.fo,fun {b} hb=>by rw[h.block b (Nat.lt_of_lt_of_le (hf hb) hn)];exact c.ff hb,by obtain⟨gv,wp,h1⟩:=c.mb;exact⟨gv,wp,(h.block _ (Nat.lt_of_lt_of_le (Array.getElem?_eq_some_iff.1 h1).1 hn)).trans h1⟩⟩
theorem Inv.cntB{G:Gh}{S:Sub}{m:Mc}{w w':World}(i:Inv G S m w){n:Nat}(hn:w.heap.size<=n)(h:Below n w w'):Cnt G S m w':=i.cnt.below (fun hb=>(i.ff hb).2) hn h
theorem Cnt.up{G H:Gh}{S:Sub}{m:Mc}{w:World}(h:G.up H)(c:Cnt H S m w):Cnt G S m w:=by
 obtain⟨a,b,d,e,f⟩:=c;rw[h.le.mb,h.le.sb,h.le.cb,h.le.mp]at f;rw[h.le.sb]at a;rw[h.le.cb]at b;rw[h.W]at d e;rw[h.F]at e;exact⟨a,b,d,e,f⟩
inductive NxRep (G:Gh) (h:Array Obj):Vl->List Vl->List Fr->Value->Prop where
 |mk (f:Vl) (l:List Vl) (k:List Fr) (q1 q2 q3 b:Nat) (sv u:Value) (h1:G.I q1=some (.cells #[bp b] 281 (0,0))) (h2:G.I q2=some (.cells #[sv] 184 (0,0))) (h3:G.I q3=some (.cells #[u] 295 (0,0)))
   (hf:QRep G f b) (hl:LRow G h sv l) (hk:FRep G k u):NxRep G h f l k (.func (.func 311) #[] #[bp q1,bp q2,bp q3])
inductive Out (G:Gh) (S:Sub):Ct->Mc->Ending->World->Prop where
 |ap (f:Vl) (l:List Vl) (k:List Fr) (m:Mc) (w:World) (H:Gh) (x:Value) (hu:G.up H) (hi:Inv H S m w) (hx:NxRep H w.heap f l k x):Out G S (.ap f l k) m (.returned x) w
 |done (v:Vl) (m:Mc) (w:World) (H:Gh) (x:Value) (hu:G.up H) (hi:Inv H S m w) (hc:w.cell? ⟨H.mb,3,none⟩=some x) (hx:VRep H v x):Out G S (.done v) m (.returned .nilFunc) w
 |stop (vd:Nat) (m:Mc) (w:World) (hc:Cnt G S m w):Out G S (.stop vd) m (.panicked (stopP (stopW vd m))) w
theorem Out.up{G H:Gh}{S:Sub}{c:Ct}{m:Mc}{e:Ending}{w:World}(h:G.up H)(o:Out H S c m e w):Out G S c m e w:=by
 cases o with
 |ap f l k m w L x hu hi hx=>exact .ap f l k m w L x (h.trans hu) hi hx
 |done v m w L x hu hi hc hx=>exact .done v m w L x (h.trans hu) hi hc hx
 |stop vd m w hc=>exact .stop vd m w (hc.up h)
def Post(G:Gh)(S:Sub)(n:Nat)(c:Ct)(m:Mc)(e:Ending)(w:World):Prop:=∃j c' m',j<=n/\go S n c m=go S j c' m'/\Out G S c' m' e w
def Ct.ended:Ct->Bool
 | .done _=>true
 | .stop _=>true
 |_=>false
theorem Post.ends{G:Gh}{S:Sub}{n:Nat}{c:Ct}{m:Mc}:∀e w,Post G S n c m e w->(∃v,e=.returned v)\/(∃ps,e=.panicked ps):=by
 rintro e w ⟨j,c',m',_,_,o⟩;cases o with
 |ap=>exact .inl ⟨_,rfl⟩
 |done=>exact .inl ⟨_,rfl⟩
 |stop=>exact .inr ⟨_,rfl⟩
theorem Post.keeps{G:Gh}{S:Sub}{n:Nat}{c:Ct}{m:Mc}{v:Value}{w:World}(h:Post G S n c m (.returned v) w){b:Nat}{o:Obj}(hb:G.I b=some o):w.heap[b]? =some o:=by
 obtain⟨j,c',m',_,_,o⟩:=h;cases o with
 |ap f l k m w L x hu hi hx=>exact hi.imm (hu.le.I hb)
 |done v m w L x hu hi hc hx=>exact hi.imm (hu.le.I hb)
theorem Post.cell{G:Gh}{S:Sub}{n:Nat}{c:Ct}{m:Mc}{v:Value}{w:World}(h:Post G S n c m (.returned v) w){b:Nat}{x:Value}{t:Nat}(hb:G.I b=some (.cells #[x] t (0,0))):w.cell? ⟨b,0,none⟩=some x:=by
 simp[World.cell?,h.keeps hb]
theorem Post.step{G H:Gh}{S:Sub}{n:Nat}{c c1:Ct}{m m1:Mc}{e:Ending}{w:World}(hn:Sc.next S c m=(c1,m1))(hc:Ct.ended c=false)(hu:G.up H)(p:Post H S n c1 m1 e w):Post G S (n+1) c m e w:=by
 obtain⟨j,c',m',h1,h2,h3⟩:=p;refine⟨j,c',m',by omega,?_,h3.up hu⟩;rw[<-h2];cases c <;> first|(simp[Ct.ended]at hc;done)|(simp only[go,hn])
theorem Post.up{G H:Gh}{S:Sub}{n:Nat}{c:Ct}{m:Mc}{e:Ending}{w:World}(hu:G.up H)(p:Post H S n c m e w):Post G S n c m e w:=by
 obtain⟨j,c',m',h1,h2,h3⟩:=p;exact⟨j,c',m',h1,h2,h3.up hu⟩
theorem Post.now{G:Gh}{S:Sub}{n:Nat}{c:Ct}{m:Mc}{e:Ending}{w:World}(o:Out G S c m e w):Post G S n c m e w:=⟨n,c,m,Nat.le_refl _,rfl,o⟩
def IsF(x:Value):Prop:=∃k cp,x=.func (.func k) #[] cp/\Eg k
theorem eg235:Eg 235:=qak func235 (by kernel_rfl) (by kernel_rfl)
theorem eg376:Eg 376:=qak func376 (by kernel_rfl) (by kernel_rfl)
theorem eg384:Eg 384:=qak func384 (by kernel_rfl) (by kernel_rfl)
theorem eg340:Eg 340:=qak func340 (by kernel_rfl) (by kernel_rfl)
theorem eg366:Eg 366:=qak func366 (by kernel_rfl) (by kernel_rfl)
theorem eg368:Eg 368:=qak func368 (by kernel_rfl) (by kernel_rfl)
theorem eg398:Eg 398:=qak func398 (by kernel_rfl) (by kernel_rfl)
theorem eg355:Eg 355:=qak func355 (by kernel_rfl) (by kernel_rfl)
theorem eg382:Eg 382:=qak func382 (by kernel_rfl) (by kernel_rfl)
theorem eg370:Eg 370:=qak func370 (by kernel_rfl) (by kernel_rfl)
theorem eg230:Eg 230:=qak func230 (by kernel_rfl) (by kernel_rfl)
theorem eg399:Eg 399:=qak func399 (by kernel_rfl) (by kernel_rfl)
theorem eg356:Eg 356:=qak func356 (by kernel_rfl) (by kernel_rfl)
theorem eg385:Eg 385:=qak func385 (by kernel_rfl) (by kernel_rfl)
theorem eg396:Eg 396:=qak func396 (by kernel_rfl) (by kernel_rfl)
theorem eg315:Eg 315:=qak func315 (by kernel_rfl) (by kernel_rfl)
theorem eg316:Eg 316:=qak func316 (by kernel_rfl) (by kernel_rfl)
theorem eg317:Eg 317:=qak func317 (by kernel_rfl) (by kernel_rfl)
theorem eg351:Eg 351:=qak func351 (by kernel_rfl) (by kernel_rfl)
theorem eg353:Eg 353:=qak func353 (by kernel_rfl) (by kernel_rfl)
theorem eg372:Eg 372:=qak func372 (by kernel_rfl) (by kernel_rfl)
theorem eg363:Eg 363:=qak func363 (by kernel_rfl) (by kernel_rfl)
theorem eg358:Eg 358:=qak func358 (by kernel_rfl) (by kernel_rfl)
theorem eg400:Eg 400:=qak func400 (by kernel_rfl) (by kernel_rfl)
theorem eg401:Eg 401:=qak func401 (by kernel_rfl) (by kernel_rfl)
theorem eg322:Eg 322:=qak func322 (by kernel_rfl) (by kernel_rfl)
theorem CRep.isF{G:Gh}{sh:List Nat}{e:Ex}{x:Value}(h:CRep G sh e x):IsF x:=by
 cases h with
 |step=>exact⟨_,_,rfl,eg376⟩
theorem ORep.isF{G:Gh}{sh:List Nat}{e:Option Ex}{x:Value}(h:ORep G sh e x):IsF x:=by
 cases h with
 |none=>exact⟨_,_,rfl,eg235⟩
 |some sh e x h=>exact h.isF
theorem SRep.isF{G:Gh}{sh:List Nat}{e:List Ex}{x:Value}(h:SRep G sh e x):IsF x:=by
 cases h with
 |one sh e x h=>exact h.isF
 |cons=>exact⟨_,_,rfl,eg384⟩
theorem IRep.isF{G:Gh}{sh:List Nat}{e:Ex}{x:Value}(h:IRep G sh e x):IsF x:=by
 cases h with
 |quo=>exact⟨_,_,rfl,eg340⟩
 |loc=>exact⟨_,_,rfl,eg366⟩
 |glo=>exact⟨_,_,rfl,eg368⟩
 |ite=>exact⟨_,_,rfl,eg398⟩
 |setL=>exact⟨_,_,rfl,eg355⟩
 |setG=>exact⟨_,_,rfl,eg355⟩
 |defG=>exact⟨_,_,rfl,eg355⟩
 |lam=>exact⟨_,_,rfl,eg382⟩
 |app=>exact⟨_,_,rfl,eg370⟩
 |seq sh a l y h=>exact h.isF
theorem FRep.isF{G:Gh}{k:List Fr}{x:Value}(h:FRep G k x):IsF x:=by
 cases h with
 |nil=>exact⟨_,_,rfl,eg230⟩
 |ite=>exact⟨_,_,rfl,eg399⟩
 |set=>exact⟨_,_,rfl,eg356⟩
 |body=>exact⟨_,_,rfl,eg385⟩
 |app=>exact⟨_,_,rfl,eg396⟩
 |wind1=>exact⟨_,_,rfl,eg315⟩
 |wind2=>exact⟨_,_,rfl,eg316⟩
 |wind3=>exact⟨_,_,rfl,eg317⟩
 |back=>exact⟨_,_,rfl,eg351⟩
 |into=>exact⟨_,_,rfl,eg353⟩
theorem TRep.isF{G:Gh}{sh:List Nat}{t:Tg}{x:Value}(h:TRep G sh t x):IsF x:=by
 cases h with
 |loc=>exact⟨_,_,rfl,eg400⟩
 |glo=>exact⟨_,_,rfl,eg401⟩
 |def'=>exact⟨_,_,rfl,eg322⟩
end
section
open Sc
def GT(w:World):Prop:=Lib.TabIs prog w "internal/strconv.uint64pow10" .u64 Lib.pow10Tab
theorem pow10_no:prog.globalNamed "internal/strconv.uint64pow10" =some 0:=by kernel_rfl
theorem GT.keep{w w':World}(h:GT w)(e:w'.heap[0]? =w.heap[0]?):GT w':=by
 unfold GT Lib.TabIs World.var? at*;rw[pow10_no]at h|-;simp only[Option.bind_some]at h|-;rw[e];exact h
def TabW(G:Gh):Prop:=(∀b,b<6->G.F b)/\GT G.W
theorem TabW.up{G H:Gh}(t:TabW G)(h:G.up H):TabW H:=by
 unfold TabW;rw[h.W,h.F];exact t
theorem TabW.now{G:Gh}{S:Sub}{m:Mc}{w:World}(t:TabW G)(i:Inv G S m w):GT w:=t.2.keep (i.ff (t.1 0 (by omega))).1
theorem TabW.six{G:Gh}{S:Sub}{m:Mc}{w:World}(t:TabW G)(i:Inv G S m w):6<=w.heap.size:=(i.ff (t.1 5 (by omega))).2
end
section
open Sc
section
variable {G:Gh} {S:Sub} {m:Mc} {w:World}
theorem Inv.alloc2(i:Inv G S m w)(o1 o2:Obj):Inv ((G.add w.heap.size o1).add (w.heap.size+1) o2) S m ((w.alloc o1).alloc o2):=by
 have:=(i.alloc o1).alloc o2;simpa using this
theorem Inv.alloc3(i:Inv G S m w)(o1 o2 o3:Obj):Inv (((G.add w.heap.size o1).add (w.heap.size+1) o2).add (w.heap.size+2) o3) S m (((w.alloc o1).alloc o2).alloc o3):=by
 have:=(i.alloc2 o1 o2).alloc o3;simpa using this
theorem Inv.alloc4(i:Inv G S m w)(o1 o2 o3 o4:Obj):Inv ((((G.add w.heap.size o1).add (w.heap.size+1) o2).add (w.heap.size+2) o3).add (w.heap.size+3) o4) S m ((((w.alloc o1).alloc o2).alloc o3).alloc o4):=by
 have:=(i.alloc3 o1 o2 o3).alloc o4;simpa using this
theorem Inv.alloc5(i:Inv G S m w)(o1 o2 o3 o4 o5:Obj):Inv (((((G.add w.heap.size o1).add (w.heap.size+1) o2).add (w.heap.size+2) o3).add (w.heap.size+3) o4).add (w.heap.size+4) o5) S m (((((w.alloc o1).alloc o2).alloc o3).alloc o4).alloc o5):=by
 have:=(i.alloc4 o1 o2 o3 o4).alloc o5;simpa using this
theorem Inv.x1(i:Inv G S m w)(o1:Obj):G.ext (G.add w.heap.size o1) w.heap.size:=i.ext_alloc o1
theorem Inv.x2(i:Inv G S m w)(o1 o2:Obj):G.ext ((G.add w.heap.size o1).add (w.heap.size+1) o2) w.heap.size:=by
 have:=(i.x1 o1).trans ((i.alloc o1).ext_alloc o2) (by simp);simpa using this
theorem Inv.x3(i:Inv G S m w)(o1 o2 o3:Obj):G.ext (((G.add w.heap.size o1).add (w.heap.size+1) o2).add (w.heap.size+2) o3) w.heap.size:=by
 have:=(i.x2 o1 o2).trans ((i.alloc2 o1 o2).ext_alloc o3) (by simp;omega);simpa using this
theorem Inv.x4(i:Inv G S m w)(o1 o2 o3 o4:Obj):G.ext ((((G.add w.heap.size o1).add (w.heap.size+1) o2).add (w.heap.size+2) o3).add (w.heap.size+3) o4) w.heap.size:=by
 have:=(i.x3 o1 o2 o3).trans ((i.alloc3 o1 o2 o3).ext_alloc o4) (by simp;omega);simpa using this
theorem Inv.x5(i:Inv G S m w)(o1 o2 o3 o4 o5:Obj):G.ext (((((G.add w.heap.size o1).add (w.heap.size+1) o2).add (w.heap.size+2) o3).add (w.heap.size+3) o4).add (w.heap.size+4) o5) w.heap.size:=by
 have:=(i.x4 o1 o2 o3 o4).trans ((i.alloc4 o1 o2 o3 o4).ext_alloc o5) (by simp;omega);simpa using this
end
theorem qae(G:Gh){b c:Nat}{o:Obj}(h:c≠b):(G.add b o).I c=G.I c:=if_neg h
def SimE(S:Sub)(n:Nat):Prop:=∀(G:Gh) (m:Mc) (w:World) (sh:List Nat) (e:Ex) (env:Option Nat) (k:List Fr) (kx ku:Nat) (cx cu:Array Value) (pf:Option Addr),
 Inv G S m w->CRep G sh e (.func (.func kx) #[] cx)->NRep G env pf->Sh G sh pf->FRep G k (.func (.func ku) #[] cu)->Ct.ended (go S n (.ev e env k) m).1=true->
 Calls prog kx (#[.pointer pf,.func (.func ku) #[] cu]++cx) w (Post G S n (.ev e env k) m)
def SimV(S:Sub)(n:Nat):Prop:=∀(G:Gh) (m:Mc) (w:World) (v:Vl) (k:List Fr) (x:Value) (ku:Nat) (cu:Array Value),
 Inv G S m w->VRep G v x->FRep G k (.func (.func ku) #[] cu)->Ct.ended (go S n (.ret v k) m).1=true->
 Calls prog ku (#[x]++cu) w (Post G S n (.ret v k) m)
theorem qan{S:Sub}{n:Nat}{c c1:Ct}{m m1:Mc}(hn:Sc.next S c m=(c1,m1))(hc:Ct.ended c=false):go S (n+1) c m=go S n c1 m1:=by
 cases c <;> first|(simp[Ct.ended]at hc;done)|(simp only[go,hn])
theorem qks{S:Sub}:∀(n:Nat) {c:Ct} {m:Mc},Ct.ended c=true->go S n c m=(c,m)
 |0,c,m,_=>rfl
 |n+1,c,m,h=>by cases c <;> first|(simp[Ct.ended]at h;done)|rfl
theorem qd2{S:Sub}{n:Nat}(ih:SimE S n)(G:Gh)(m:Mc)(w:World)(sh:List Nat)(l:List Ex)(env:Option Nat)(k:List Fr)(kx ku:Nat)(cx cu:Array Value)(pf:Option Addr)
  (i:Inv G S m w)(hl:SRep G sh l (.func (.func kx) #[] cx))(hn:NRep G env pf)(hs:Sh G sh pf)(hk:FRep G k (.func (.func ku) #[] cu))(he:Ct.ended (go S n (bodyOf l env k) m).1=true):
  Calls prog kx (#[.pointer pf,.func (.func ku) #[] cu]++cx) w (Post G S n (bodyOf l env k) m):=by
 cases hl with
 |one sh e x h=>exact ih G m w sh e env k _ ku _ cu pf i h hn hs hk he
 |cons sh e a r q1 q2 x y h1 h2 h hr=>
  obtain⟨k1,c1,rfl,eg1⟩:=h.isF;have i2:=i.alloc2 (.cells #[.pointer pf] 378) (.cells #[.func (.func ku) #[] cu] 295);have x2:=i.x2 (.cells #[.pointer pf] 378) (.cells #[.func (.func ku) #[] cu] 295);refine seq1 q1 q2 pf ku cu k1 c1 w _ eg1 Post.ends (by rw[i.cell h1];rfl) ?_;intro w' hw;refine Calls.mono (ih _ m w' sh e env (.body (a::r) env::k) k1 385 c1 _ pf (Inv.lk hw i2) (h.mono x2.le) (hn.mono x2.le) (hs.mono x2.le)
   (.body sh (a::r) env k q2 _ _ y (.func (.func ku) #[] cu) pf (x2.le.I h2) ?_ ?_ (hr.mono x2.le) (hn.mono x2.le) (hs.mono x2.le) (hk.mono x2.le)) he) ?_
  ·rw[qae _ (by omega)];exact Gh.add_at _ _ _
  ·exact Gh.add_at _ _ _
  ·exact fun e w p=>p.up x2.up
end
section
open Sc
section
variable {G:Gh} {S:Sub} {m:Mc} {w:World}
theorem Inv.mb0(i:Inv G S m w):w.cell? ⟨G.mb,0,Option.none⟩=some (.pointer (some ⟨G.sb,0,Option.none⟩)):=by obtain⟨gv,wp,h,_⟩:=i.ma;simp[World.cell?,h]
theorem Inv.mb1(i:Inv G S m w):w.cell? ⟨G.mb,1,Option.none⟩=some (.pointer (some ⟨G.cb,0,Option.none⟩)):=by obtain⟨gv,wp,h,_⟩:=i.ma;simp[World.cell?,h]
theorem Inv.mb3(i:Inv G S m w):∃x,w.cell? ⟨G.mb,3,Option.none⟩=some x:=by obtain⟨gv,wp,h,_⟩:=i.ma;exact⟨gv,by simp[World.cell?,h]⟩
theorem Inv.mbf(i:Inv G S m w)(o:Nat):w.frozen? ⟨G.mb,o,Option.none⟩=false:=by obtain⟨gv,wp,h,_⟩:=i.ma;simp[World.frozen?,h]
theorem Inv.ne(i:Inv G S m w){b c:Nat}{o:Obj}(hb:G.I b=some o)(hc:c∈G.mut):b≠c:=fun e=>by subst e;rw[i.mi hc]at hb;cases hb
theorem Inv.find(i:Inv G S m w):∀(u:Nat) {sh:List Nat} {env:Option Nat} {pf:Option Addr} {n:Nat},NRep G env pf->Sh G sh pf->sh[u]? =some n->
  ∃j fb sv vs e,outward m env u=some j/\m.envs[j]? =some (vs,e)/\G.E[j]? =some (fb,sv)/\Outs w u pf fb/\w.cell? ⟨fb,0,Option.none⟩=some sv/\ERow G w.heap sv vs/\vs.length=n
 |0,sh,env,pf,n,hn,hs,hu=>by
  cases hs with
  |nil=>simp at hu
  |cons n' sh fb a cap q h hs=>
   obtain rfl:n'=n:=by simpa using hu
   cases hn with
   |some j fb' sv hE=>
    have hj:j<m.envs.length:=by rw[<-i.el];exact(List.getElem?_eq_some_iff.1 hE).1
    obtain⟨fb2,sv2,pf2,e1,e2,e3,e4⟩:=i.en (i:=j) (vs:=m.envs[j].1) (e:=m.envs[j].2) (List.getElem?_eq_getElem hj);rw[hE]at e1;cases e1;have hI:=h.symm.trans e2;cases hI;refine⟨j,fb,.slice a n' cap,m.envs[j].1,m.envs[j].2,rfl,List.getElem?_eq_getElem hj,hE,rfl,by rw[i.cell e2];rfl,e4,?_⟩;rcases e4 with⟨h1,a',cap',h2⟩|⟨g,o,cap',arr,h2,_⟩
    ·cases h2;simp[h1]
    ·cases h2;rfl
 |u+1,sh,env,pf,n,hn,hs,hu=>by
  cases hs with
  |nil=>simp at hu
  |cons n' sh fb a cap q h hs=>
   cases hn with
   |some j fb' sv hE=>
    have hj:j<m.envs.length:=by rw[<-i.el];exact(List.getElem?_eq_some_iff.1 hE).1
    obtain⟨fb2,sv2,pf2,e1,e2,e3,e4⟩:=i.en (i:=j) (vs:=m.envs[j].1) (e:=m.envs[j].2) (List.getElem?_eq_getElem hj);rw[hE]at e1;cases e1;have hI:=h.symm.trans e2;cases hI;obtain⟨j2,fb3,sv3,vs3,e5,k1,k2,k3,k4,k5⟩:=i.find u e3 hs (by simpa using hu);refine⟨j2,fb3,sv3,vs3,e5,?_,k2,k3,⟨fb,q,rfl,by rw[i.cell e2];rfl,k4⟩,k5⟩;show outward m (m.envs[j]?.bind (·.2)) u=some j2;rw[List.getElem?_eq_getElem hj];exact k1
end
theorem qq9{S:Sub}{n:Nat}(G:Gh)(m:Mc)(w:World)(sh:List Nat)(e:Ex)(env:Option Nat)(k:List Fr)(kx ku:Nat)(cx cu:Array Value)(pf:Option Addr)
  (i:Inv G S m w)(hc:CRep G sh e (.func (.func kx) #[] cx))(hout:¬(m.steps:Int)<S.fuel->Sc.next S (.ev e env k) m=(.stop 10,m))
  (h:∀ky cy w1,Inv G S {m with steps:=m.steps+1} w1->IRep G sh e (.func (.func ky) #[] cy)->(m.steps:Int)<S.fuel->Calls prog ky (#[.pointer pf,.func (.func ku) #[] cu]++cy) w1 (Post G S (n+1) (.ev e env k) m)):
  Calls prog kx (#[.pointer pf,.func (.func ku) #[] cu]++cx) w (Post G S (n+1) (.ev e env k) m):=by
 cases hc with
 |step sh e pm pc y h1 h2 hi=>
  by_cases hst:(m.steps:Int)<S.fuel
  ·obtain⟨ky,cy,rfl,egy⟩:=hi.isF;have i1:=i.steps (m.steps+1) (by push_cast;omega);refine qqy G.mb G.sb pm pc ky m.steps S.fuel cy pf ku cu w _ egy Post.ends (by rw[i.cell h1];rfl) i.mb0 (by rw[i.cell h2];rfl) i.st (by omega) (by omega) (by have:=i.sl.2;omega) (i.ne h2 i.m2) ?_;intro w1 hw1;exact h ky cy w1 (Inv.lk hw1 (by simpa using i1)) hi hst
  ·have hm:(m.steps:Int)=S.fuel:=by have:=i.sl.1;omega
   have hM:=i.st;rw[<-hm]at hM;refine Calls.mono (qnp G.mb G.sb pm pc m.steps pf ku cu w (by rw[i.cell h1];rfl) i.mb0 hM (by omega) (by have:=i.sl.2;omega)) ?_;rintro e' w' ⟨rfl,hb⟩;have i1:=i.steps m.steps (by omega);exact Post.step (hout hst) rfl (Gh.up.refl G) (Post.now (.stop 10 m w' (i1.cntB (by rw[qaf];exact Nat.le_refl _) hb)))
end
section
open Sc
section
variable {S:Sub} {n:Nat} {G:Gh} {m:Mc} {w1:World} {sh:List Nat} {env:Option Nat} {k:List Fr} {ku:Nat} {cu:Array Value} {pf:Option Addr}
theorem sim_loc(ihv:SimV S n)(i:Inv G S {m with steps:=m.steps+1} w1)(hn:NRep G env pf)(hs:Sh G sh pf)(hk:FRep G k (.func (.func ku) #[] cu))(hst:(m.steps:Int)<S.fuel){u j N q:Nat}(hu:sh[u]? =some N)(hj:j<N)(hq:G.I q=some (.cells #[.int .i64 (u:Int),.int .i64 (j:Int)] 395 (0,0)))
  (hl:u<=1000000000)(hN:N<=1000000000)(he:Ct.ended (go S (n+1) (.ev (.loc u j) env k) m).1=true):
  Calls prog 366 (#[.pointer pf,.func (.func ku) #[] cu]++#[bp q]) w1 (Post G S (n+1) (.ev (.loc u j) env k) m):=by
 obtain⟨jx,fb,sv,vs,e',h1,h2,h3,h4,h5,h6,h7⟩:=i.find u hn hs hu;have hnx:Sc.next S (.ev (.loc u j) env k) m=(.ret (local' {m with steps:=m.steps+1} env u j) k,{m with steps:=m.steps+1}):=by
  simp[Sc.next,Sc.step,hst]
 rw[qan hnx rfl]at he;rcases h6 with⟨rfl,_⟩|⟨g,o,cap,arr,rfl,hne,hg,hx⟩
 ·simp at h7;omega
 have hjv:j<vs.length:=by omega
 obtain⟨x,hx1,hx2⟩:=hx j vs[j] (List.getElem?_eq_getElem hjv);have hloc:local' {m with steps:=m.steps+1} env u j=vs[j]:=by
  unfold local';rw[h1];simp only[h2];simp[hjv]
 obtain⟨kk,ck,hku,egu⟩:=hk.isF;cases hku;obtain⟨t,y,rfl⟩:=hx2.form;subst h7;refine local1 q u j fb g o vs.length cap t ku y pf cu w1 _ egu Post.ends (by rw[i.cell hq];rfl) (by rw[i.cell hq];rfl) h4 h5 hj hl hN (by simp[World.cell?,hg,hx1]) ?_;intro w' hb;rw[hloc]at hnx he;exact Calls.mono (ihv G {m with steps:=m.steps+1} w' vs[j] k _ ku cu (i.below hb) hx2 hk he) fun e w p=>Post.step hnx rfl (Gh.up.refl G) p
theorem sim_glo(ihv:SimV S n)(i:Inv G S {m with steps:=m.steps+1} w1)(hk:FRep G k (.func (.func ku) #[] cu))(hst:(m.steps:Int)<S.fuel){s:Bs}{q b:Nat}(hq:G.I q=some (.cells #[bp b] 319 (0,0)))(hb:(s,b)∈G.B)(he:Ct.ended (go S (n+1) (.ev (.glo s) env k) m).1=true):
  Calls prog 368 (#[.pointer pf,.func (.func ku) #[] cu]++#[bp q]) w1 (Post G S (n+1) (.ev (.glo s) env k) m):=by
 obtain⟨x,hx1,hx2⟩:=i.gl hb;have hc:w1.cell? ⟨b,0,none⟩=some x:=by simp[World.cell?,hx1]
 rcases hv:lookup s m.glob with _|v
 ·have hnx:Sc.next S (.ev (.glo s) env k) m=(.stop 5,{m with steps:=m.steps+1}):=by simp[Sc.next,Sc.step,hst,hv]
  have hx2:GVal G (lookup s m.glob) x:=hx2;rw[hv]at hx2;obtain rfl:x=.nilIface:=hx2;refine Calls.mono (qjo q b pf ku cu w1 (by rw[i.cell hq];rfl) hc) ?_;rintro e w ⟨rfl,o,rfl⟩;exact Post.step hnx rfl (Gh.up.refl G) (Post.now (.stop 5 _ _ (i.cntB (Nat.le_refl _) ((Below.refl _ _).alloc (Nat.le_refl _) _))))
 ·have hnx:Sc.next S (.ev (.glo s) env k) m=(.ret v k,{m with steps:=m.steps+1}):=by simp[Sc.next,Sc.step,hst,hv]
  rw[qan hnx rfl]at he;have hx2:GVal G (lookup s m.glob) x:=hx2;rw[hv]at hx2;have hx2:VRep G v x:=hx2;obtain⟨t,y,rfl⟩:=hx2.form;obtain⟨kk,ck,hku,egu⟩:=hk.isF;cases hku;refine qmk q b t y pf ku cu w1 _ egu Post.ends (by rw[i.cell hq];rfl) hc ?_;intro w' hw;exact Calls.mono (ihv G _ w' v k _ ku cu (Inv.lk hw i) hx2 hk he) fun e w p=>Post.step hnx rfl (Gh.up.refl G) p
theorem sim_ite(ihe:SimE S n)(i:Inv G S {m with steps:=m.steps+1} w1)(hn:NRep G env pf)(hs:Sh G sh pf)(hk:FRep G k (.func (.func ku) #[] cu))(hst:(m.steps:Int)<S.fuel){c t:Ex}{e:Option Ex}{q1 q2 q3:Nat}{xc xe xt:Value}
  (h1:G.I q1=some (.cells #[xc] 241 (0,0)))(h2:G.I q2=some (.cells #[xe] 241 (0,0)))(h3:G.I q3=some (.cells #[xt] 241 (0,0)))(hc:CRep G sh c xc)(ht:CRep G sh t xt)(hel:ORep G sh e xe)(he:Ct.ended (go S (n+1) (.ev (.ite c t e) env k) m).1=true):
  Calls prog 398 (#[.pointer pf,.func (.func ku) #[] cu]++#[bp q1,bp q2,bp q3]) w1 (Post G S (n+1) (.ev (.ite c t e) env k) m):=by
 have hnx:Sc.next S (.ev (.ite c t e) env k) m=(.ev c env (.ite t e env::k),{m with steps:=m.steps+1}):=by simp[Sc.next,Sc.step,hst]
 rw[qan hnx rfl]at he;obtain⟨k1,c1,rfl,eg1⟩:=hc.isF;have i2:=i.alloc2 (.cells #[.pointer pf] 378) (.cells #[.func (.func ku) #[] cu] 295);have x2:=i.x2 (.cells #[.pointer pf] 378) (.cells #[.func (.func ku) #[] cu] 295);refine if1 q1 q2 q3 pf ku cu k1 c1 w1 _ eg1 Post.ends (by rw[i.cell h1];rfl) ?_;intro w' hw;refine Calls.mono (ihe _ _ w' sh c env (.ite t e env::k) k1 399 c1 _ pf (Inv.lk hw i2) (hc.mono x2.le) (hn.mono x2.le) (hs.mono x2.le)
  (.ite sh t e env k q2 _ _ q3 xe xt (.func (.func ku) #[] cu) pf (x2.le.I h2) ?_ ?_ (x2.le.I h3) (ht.mono x2.le) (hel.mono x2.le) (hn.mono x2.le) (hs.mono x2.le) (hk.mono x2.le)) he) ?_
 ·rw[qae _ (by omega)];exact Gh.add_at _ _ _
 ·exact Gh.add_at _ _ _
 ·exact fun e w p=>Post.step hnx rfl x2.up p
theorem qim(ihe:SimE S n)(i:Inv G S {m with steps:=m.steps+1} w1)(hn:NRep G env pf)(hs:Sh G sh pf)(hk:FRep G k (.func (.func ku) #[] cu)){e a:Ex}{t:Tg}{q1 q2:Nat}{xa xs:Value}
  (hnx:Sc.next S (.ev e env k) m=(.ev a env (.set t env::k),{m with steps:=m.steps+1}))
  (h1:G.I q1=some (.cells #[xa] 241 (0,0)))(h2:G.I q2=some (.cells #[xs] 413 (0,0)))(ha:CRep G sh a xa)(ht:TRep G sh t xs)(he:Ct.ended (go S (n+1) (.ev e env k) m).1=true):
  Calls prog 355 (#[.pointer pf,.func (.func ku) #[] cu]++#[bp q1,bp q2]) w1 (Post G S (n+1) (.ev e env k) m):=by
 rw[qan hnx rfl]at he;obtain⟨k1,c1,rfl,eg1⟩:=ha.isF;have i2:=i.alloc2 (.cells #[.pointer pf] 378) (.cells #[.func (.func ku) #[] cu] 295);have x2:=i.x2 (.cells #[.pointer pf] 378) (.cells #[.func (.func ku) #[] cu] 295);refine set1 q1 q2 pf ku cu k1 c1 w1 _ eg1 Post.ends (by rw[i.cell h1];rfl) ?_;intro w' hw;refine Calls.mono (ihe _ _ w' sh a env (.set t env::k) k1 356 c1 _ pf (Inv.lk hw i2) (ha.mono x2.le) (hn.mono x2.le) (hs.mono x2.le)
  (.set sh t env k q2 _ _ xs (.func (.func ku) #[] cu) pf (x2.le.I h2) ?_ ?_ (ht.mono x2.le) (hn.mono x2.le) (hs.mono x2.le) (hk.mono x2.le)) he) ?_
 ·rw[qae _ (by omega)];exact Gh.add_at _ _ _
 ·exact Gh.add_at _ _ _
 ·exact fun e w p=>Post.step hnx rfl x2.up p
theorem sim_seq(ihe:SimE S n)(i:Inv G S {m with steps:=m.steps+1} w1)(hn:NRep G env pf)(hs:Sh G sh pf)(hk:FRep G k (.func (.func ku) #[] cu))(hst:(m.steps:Int)<S.fuel){a:Ex}{l:List Ex}{ky:Nat}{cy:Array Value}
  (h:SRep G sh (a::l) (.func (.func ky) #[] cy))(he:Ct.ended (go S (n+1) (.ev (.seq a l) env k) m).1=true):
  Calls prog ky (#[.pointer pf,.func (.func ku) #[] cu]++cy) w1 (Post G S (n+1) (.ev (.seq a l) env k) m):=by
 have hnx:Sc.next S (.ev (.seq a l) env k) m=(bodyOf (a::l) env k,{m with steps:=m.steps+1}):=by simp[Sc.next,Sc.step,hst]
 rw[qan hnx rfl]at he;exact Calls.mono (qd2 ihe G _ w1 sh (a::l) env k ky ku cy cu pf i h hn hs hk he) fun e w p=>Post.step hnx rfl (Gh.up.refl G) p
theorem sim_app(ihe:SimE S n)(i:Inv G S {m with steps:=m.steps+1} w1)(hn:NRep G env pf)(hs:Sh G sh pf)(hk:FRep G k (.func (.func ku) #[] cu))(hst:(m.steps:Int)<S.fuel){f:Ex}{l:List Ex}{q1 q2:Nat}{sl:Value}{xs:List Value}
  (h1:G.mbox q1)(h2:G.I q2=some (.cells #[sl] 426 (0,0)))(hbn:xs.length<=90000)(hr:RowI G 241 sl xs)(hx:XRep G sh (f::l) xs)(he:Ct.ended (go S (n+1) (.ev (.app f l) env k) m).1=true):
  Calls prog 370 (#[.pointer pf,.func (.func ku) #[] cu]++#[bp q1,bp q2]) w1 (Post G S (n+1) (.ev (.app f l) env k) m):=by
 have hnx:Sc.next S (.ev (.app f l) env k) m=(.ev f env (.app [] l env::k),{m with steps:=m.steps+1}):=by simp[Sc.next,Sc.step,hst]
 rw[qan hnx rfl]at he;cases hx with
 |cons sh f l x0 xs hf hl=>
  obtain⟨g,o,cap,arr,rfl,hg,hc,hm,hrow⟩:=hr;obtain⟨k1,c1,rfl,eg1⟩:=hf.isF;have i1:=i.alloc (.cells #[.func (.func ku) #[] cu] 295);have x1:=i.x1 (.cells #[.func (.func ku) #[] cu] 295);refine app1 q1 q2 G.mb g o (xs.length+1) cap pf ku cu w1 _ Post.ends (by rw[i.cell h1];rfl) (by rw[i.cell h2];rfl) ?_;intro w' hw;have i1':=Inv.lk hw i1;have hs1:w'.heap.size=w1.heap.size+1:=by rw[hw.heap];simp
  have hgc:w'.cell? ⟨g,o,none⟩=some (.func (.func k1) #[] c1):=by
   rw[i1'.cell (x1.le.I hg)];exact hrow 0 _ rfl
  have i6:=i1'.alloc5 (.cells #[bp G.mb] 107) (.cells #[.slice (some ⟨g,o,none⟩) (xs.length+1) cap] 426) (.cells #[.pointer pf] 378) (.cells #[.pointer none] 470) (.cells #[.func (.func 372) #[] #[bp q1,bp w1.heap.size]] 450);have x6:=i1'.x5 (.cells #[bp G.mb] 107) (.cells #[.slice (some ⟨g,o,none⟩) (xs.length+1) cap] 426) (.cells #[.pointer pf] 378) (.cells #[.pointer none] 470) (.cells #[.func (.func 372) #[] #[bp q1,bp w1.heap.size]] 450);refine qev G.mb g o xs.length cap k1 c1 pf none 372 #[bp q1,bp w1.heap.size] w' _ eg1 Post.ends hgc ?_;intro w'' hw2;have L:=x1.le.trans x6.le;refine Calls.mono (ihe _ _ w'' sh f env (.app [] l env::k) k1 396 c1 _ pf (Inv.lk hw2 i6) (hf.mono L) (hn.mono L) (hs.mono L)
   (.app sh [] l env k _ _ _ _ _ q1 w1.heap.size (.slice (some ⟨g,o,none⟩) (xs.length+1) cap) (.func (.func k1) #[] c1) (.func (.func ku) #[] cu) xs pf none ?_ ?_ ?_ ?_ ?_ ?_ ?_ (by simp at hbn|-;omega) ?_ (hl.mono L) .nil (hn.mono L) (hs.mono L) (hk.mono L)) he) ?_
  ·show _=some (Obj.cells #[bp G.mb] 107 (0,0));rw[qae _ (by omega),qae _ (by omega),qae _ (by omega),qae _ (by omega)];exact Gh.add_at _ _ _
  ·rw[qae _ (by omega),qae _ (by omega),qae _ (by omega)];exact Gh.add_at _ _ _
  ·rw[qae _ (by omega),qae _ (by omega)];exact Gh.add_at _ _ _
  ·rw[qae _ (by omega)];exact Gh.add_at _ _ _
  ·exact Gh.add_at _ _ _
  ·exact L.mbox h1
  ·exact x6.le.I (Gh.add_at _ _ _)
  ·exact⟨g,o,cap,arr,rfl,L.I hg,hc,hm,hrow⟩
  ·exact fun e w p=>Post.step hnx rfl (x1.up.trans x6.up) p
end
end
end Go.Proofs.YtldaocpojcfljaaGreatDoor
