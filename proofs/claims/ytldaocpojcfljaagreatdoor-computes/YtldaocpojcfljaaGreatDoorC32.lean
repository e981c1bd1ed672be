import Derived.Test.YtldaocpojcfljaaGreatDoorC31
set_option maxRecDepth 100000
set_option maxHeartbeats 4000000
namespace Go.Proofs.YtldaocpojcfljaaGreatDoor
open Tryz hiding parts
open Go.RowKit Go.Shelf
section
open Sc
theorem qgv (xb mb g o xcap:Nat) (u v:Int) (yn:Int) (ytr:Bool) (ytx:ByteArray) (ym:Int) (ya:Option Addr) (ylen ycap:Nat) (zk zn:Int) (ztr:Bool) (ztx:ByteArray) (zm:Int) (za:Option Addr) (zlen zcap:Nat) (w:World) (Q:Ending→World→Prop) (c0:w.cell? ⟨xb,0,none⟩=some (bp mb)) (a0:w.cell? ⟨g,o+6,none⟩=some (.int .i64 3)) (a1:w.cell? ⟨g,o+6+1,none⟩=some (.int .i64 yn)) (a2:w.cell? ⟨g,o+6+2,none⟩=some (.bool ytr)) (a3:w.cell? ⟨g,o+6+3,none⟩=some (.string ytx)) (a4:w.cell? ⟨g,o+6+4,none⟩=some (.int .i64 ym)) (a5:w.cell? ⟨g,o+6+5,none⟩=some (.slice ya ylen ycap)) (b0:w.cell? ⟨g,o+12,none⟩=some (.int .i64 zk)) (b1:w.cell? ⟨g,o+12+1,none⟩=some (.int .i64 zn)) (b2:w.cell? ⟨g,o+12+2,none⟩=some (.bool ztr)) (b3:w.cell? ⟨g,o+12+3,none⟩=some (.string ztx)) (b4:w.cell? ⟨g,o+12+4,none⟩=some (.int .i64 zm)) (b5:w.cell? ⟨g,o+12+5,none⟩=some (.slice za zlen zcap))
  (hM:∀w',Below w.heap.size w w'→Calls prog 318 #[bp xb,.agg #[.string ytx,.int .i64 ym]] w' fun e w2=>e=.returned (.tuple #[.int .i64 0,.agg #[.int .i64 u,.int .i64 v]])∧Below w'.heap.size w' w2)
  (hE:∀w',Below w.heap.size w w'→Calls prog 236 #[bp xb,.agg (Dl.cells ⟨zk,zn,ztr,ztx,zm,za,zlen,zcap⟩)] w' (RetP (fun x w2=>∃kc cc,x=.func (.func kc) #[] cc∧w2.cell? ⟨xb,0,none⟩=some (bp mb)∧(∀b,w.heap.size≤b→b<w'.heap.size→w2.heap[b]? =w'.heap[b]?)∧∀w3,Lk w2 w3→Calls prog 374 #[bp mb,.agg #[.int .i64 u,.int .i64 v],.func (.func kc) #[] cc] w3 (RQ Q)) Q)):
  Calls prog 336 #[bp xb,.slice (some ⟨g,o,none⟩) 3 xcap] w Q:=by
 have l0:=qac c0
 have HM:=hZ hM
 have HE:=hZ hE
 clear hM hE
 go_enter func336,ntmps336
 go_wp2_with (first|(go_at_call 290;refine(qam _).mono ?_;rintro e w2 ⟨rfl,hww⟩;obtain rfl:=hww.symm)|(go_at_call 296;refine(qbt yn ytr ytx ym ya ylen ycap _).mono ?_;rintro e w2 ⟨rfl,hb⟩;refine Hid.out ?_))
 have hb1:Below w.heap.size w (w2.alloc (.cells #[.string ytx,.int .i64 ym] 382)):=hb.trans ((qab _ _).mono hb.size)
 have hn1:=heap_alloc_new w2 (.cells #[.string ytx,.int .i64 ym] 382)
 have hq1:w.heap.size≤w2.heap.size:=hb.size
 have HB1:=hZ hb1
 have HN1:=hZ hn1
 clear hb hb1 hn1
 refine hZ ?_
 go_wp2_with (first|(go_at_call 318;refine(HM.out _ HB1.out).mono ?_;rintro e w3 ⟨rfl,hb⟩;refine Hid.out ?_))
 have hb3:Below w.heap.size w w3:=HB1.out.trans (hb.mono HB1.out.size)
 have hb4:Below w.heap.size w (w3.alloc (.cells #[.int .i64 u,.int .i64 v] 395)):=hb3.trans ((qab _ _).mono hb3.size)
 have hn3:(w3.alloc (.cells #[.int .i64 u,.int .i64 v] 395)).heap[w2.heap.size]? =some (.cells #[.string ytx,.int .i64 ym] 382 (0,0)):=by
  have e1:=(hb.block _ (by simp)).trans HN1.out
  rw [Below.heap_alloc _ _ _ (Array.getElem?_eq_some_iff.1 e1).1];exact e1
 have hn4:=heap_alloc_new w3 (.cells #[.int .i64 u,.int .i64 v] 395)
 have hq4:w.heap.size≤w3.heap.size:=hb3.size
 have e0:(w3.alloc (.cells #[.int .i64 u,.int .i64 v] 395)).cell? ⟨g,o+12,none⟩=some (.int .i64 zk):=(hb4.cell (p:=⟨g,_,none⟩) (qac b0)).trans b0
 have e1:(w3.alloc (.cells #[.int .i64 u,.int .i64 v] 395)).cell? ⟨g,o+12+1,none⟩=some (.int .i64 zn):=(hb4.cell (p:=⟨g,_,none⟩) (qac b1)).trans b1
 have e2:(w3.alloc (.cells #[.int .i64 u,.int .i64 v] 395)).cell? ⟨g,o+12+2,none⟩=some (.bool ztr):=(hb4.cell (p:=⟨g,_,none⟩) (qac b2)).trans b2
 have e3:(w3.alloc (.cells #[.int .i64 u,.int .i64 v] 395)).cell? ⟨g,o+12+3,none⟩=some (.string ztx):=(hb4.cell (p:=⟨g,_,none⟩) (qac b3)).trans b3
 have e4:(w3.alloc (.cells #[.int .i64 u,.int .i64 v] 395)).cell? ⟨g,o+12+4,none⟩=some (.int .i64 zm):=(hb4.cell (p:=⟨g,_,none⟩) (qac b4)).trans b4
 have e5:(w3.alloc (.cells #[.int .i64 u,.int .i64 v] 395)).cell? ⟨g,o+12+5,none⟩=some (.slice za zlen zcap):=(hb4.cell (p:=⟨g,_,none⟩) (qac b5)).trans b5
 have HB4:=hZ hb4
 have HN3:=hZ (And.intro hn3 hn4)
 clear hb hb3 hb4 hn3 hn4 HM HB1 HN1 b0 b1 b2 b3 b4 b5 a0 a1 a2 a3 a4 a5
 refine hZ ?_
 go_wp2_with (first|(go_at_call 290;refine(qam _).mono ?_;rintro e w2 ⟨rfl,hww⟩;obtain rfl:=hww.symm)|(go_at_call 236;refine(HE.out _ HB4.out).mono ?_;rintro e w4 (⟨ps,rfl,hq⟩|⟨x,rfl,kc,cc,rfl,cx,hkp,hK⟩);(exact⟨rfl,hq⟩);refine Hid.out ?_))
 have hm4:=(hkp w3.heap.size hq4 (by simp)).trans HN3.out.2
 have k0:w4.cell? ⟨w3.heap.size,0,none⟩=some (.int .i64 u):=by simp only [World.cell?,hm4];rfl
 have k1:w4.cell? ⟨w3.heap.size,1,none⟩=some (.int .i64 v):=by simp only [World.cell?,hm4];rfl
 have HK:=hZ hK
 clear hK hkp hm4 HN3 HB4 HE e0 e1 e2 e3 e4 e5
 refine hZ ?_
 go_wp2_with (fail)
 refine qai 6 (by kernel_rfl) (by kernel_rfl) ?_
 simp only [List.take_succ_cons,List.take_zero,List.drop_succ_cons,List.drop_zero]
 repeat still_step
 refine wpStill_nil ?_
 go_wp2_with (first|(go_at_call 374;refine(HK.out _ (by exact⟨rfl,rfl,rfl,rfl⟩)).mono ?_;rintro e w4 (⟨ps,rfl,hq⟩|⟨v,rfl,hq⟩);(exact⟨rfl,hq⟩);have HQ:=hZ hq;clear hq))
 exact HQ.out
theorem qgx (xb mb g o xcap:Nat) (u v:Int) (yn:Int) (ytr:Bool) (ytx:ByteArray) (ym:Int) (ya:Option Addr) (ylen ycap:Nat) (zk zn:Int) (ztr:Bool) (ztx:ByteArray) (zm:Int) (za:Option Addr) (zlen zcap:Nat) (w:World) (Q:Ending→World→Prop) (c0:w.cell? ⟨xb,0,none⟩=some (bp mb)) (a0:w.cell? ⟨g,o+6,none⟩=some (.int .i64 3)) (a1:w.cell? ⟨g,o+6+1,none⟩=some (.int .i64 yn)) (a2:w.cell? ⟨g,o+6+2,none⟩=some (.bool ytr)) (a3:w.cell? ⟨g,o+6+3,none⟩=some (.string ytx)) (a4:w.cell? ⟨g,o+6+4,none⟩=some (.int .i64 ym)) (a5:w.cell? ⟨g,o+6+5,none⟩=some (.slice ya ylen ycap)) (b0:w.cell? ⟨g,o+12,none⟩=some (.int .i64 zk)) (b1:w.cell? ⟨g,o+12+1,none⟩=some (.int .i64 zn)) (b2:w.cell? ⟨g,o+12+2,none⟩=some (.bool ztr)) (b3:w.cell? ⟨g,o+12+3,none⟩=some (.string ztx)) (b4:w.cell? ⟨g,o+12+4,none⟩=some (.int .i64 zm)) (b5:w.cell? ⟨g,o+12+5,none⟩=some (.slice za zlen zcap))
  (hM:∀w',Below w.heap.size w w'→Calls prog 318 #[bp xb,.agg #[.string ytx,.int .i64 ym]] w' fun e w2=>e=.returned (.tuple #[.int .i64 3,.agg #[.int .i64 u,.int .i64 v]])∧Below w'.heap.size w' w2)
  (hE:∀w',Below w.heap.size w w'→Calls prog 236 #[bp xb,.agg (Dl.cells ⟨zk,zn,ztr,ztx,zm,za,zlen,zcap⟩)] w' (RetP (fun x w2=>∃kc cc,x=.func (.func kc) #[] cc∧w2.cell? ⟨xb,0,none⟩=some (bp mb)∧(∀b,w.heap.size≤b→b<w'.heap.size→w2.heap[b]? =w'.heap[b]?)∧∀w3,Lk w2 w3→Calls prog 375 #[bp mb,.string ytx,.func (.func kc) #[] cc] w3 (RQ Q)) Q)):
  Calls prog 336 #[bp xb,.slice (some ⟨g,o,none⟩) 3 xcap] w Q:=by
 have l0:=qac c0
 have HM:=hZ hM
 have HE:=hZ hE
 clear hM hE
 go_enter func336,ntmps336
 go_wp2_with (first|(go_at_call 290;refine(qam _).mono ?_;rintro e w2 ⟨rfl,hww⟩;obtain rfl:=hww.symm)|(go_at_call 296;refine(qbt yn ytr ytx ym ya ylen ycap _).mono ?_;rintro e w2 ⟨rfl,hb⟩;refine Hid.out ?_))
 have hb1:Below w.heap.size w (w2.alloc (.cells #[.string ytx,.int .i64 ym] 382)):=hb.trans ((qab _ _).mono hb.size)
 have hn1:=heap_alloc_new w2 (.cells #[.string ytx,.int .i64 ym] 382)
 have hq1:w.heap.size≤w2.heap.size:=hb.size
 have HB1:=hZ hb1
 have HN1:=hZ hn1
 clear hb hb1 hn1
 refine hZ ?_
 go_wp2_with (first|(go_at_call 318;refine(HM.out _ HB1.out).mono ?_;rintro e w3 ⟨rfl,hb⟩;refine Hid.out ?_))
 have hb3:Below w.heap.size w w3:=HB1.out.trans (hb.mono HB1.out.size)
 have hb4:Below w.heap.size w (w3.alloc (.cells #[.int .i64 u,.int .i64 v] 395)):=hb3.trans ((qab _ _).mono hb3.size)
 have hn3:(w3.alloc (.cells #[.int .i64 u,.int .i64 v] 395)).heap[w2.heap.size]? =some (.cells #[.string ytx,.int .i64 ym] 382 (0,0)):=by
  have e1:=(hb.block _ (by simp)).trans HN1.out
  rw [Below.heap_alloc _ _ _ (Array.getElem?_eq_some_iff.1 e1).1];exact e1
 have hn4:=heap_alloc_new w3 (.cells #[.int .i64 u,.int .i64 v] 395)
 have hq4:w.heap.size≤w3.heap.size:=hb3.size
 have e0:(w3.alloc (.cells #[.int .i64 u,.int .i64 v] 395)).cell? ⟨g,o+12,none⟩=some (.int .i64 zk):=(hb4.cell (p:=⟨g,_,none⟩) (qac b0)).trans b0
 have e1:(w3.alloc (.cells #[.int .i64 u,.int .i64 v] 395)).cell? ⟨g,o+12+1,none⟩=some (.int .i64 zn):=(hb4.cell (p:=⟨g,_,none⟩) (qac b1)).trans b1
 have e2:(w3.alloc (.cells #[.int .i64 u,.int .i64 v] 395)).cell? ⟨g,o+12+2,none⟩=some (.bool ztr):=(hb4.cell (p:=⟨g,_,none⟩) (qac b2)).trans b2
 have e3:(w3.alloc (.cells #[.int .i64 u,.int .i64 v] 395)).cell? ⟨g,o+12+3,none⟩=some (.string ztx):=(hb4.cell (p:=⟨g,_,none⟩) (qac b3)).trans b3
 have e4:(w3.alloc (.cells #[.int .i64 u,.int .i64 v] 395)).cell? ⟨g,o+12+4,none⟩=some (.int .i64 zm):=(hb4.cell (p:=⟨g,_,none⟩) (qac b4)).trans b4
 have e5:(w3.alloc (.cells #[.int .i64 u,.int .i64 v] 395)).cell? ⟨g,o+12+5,none⟩=some (.slice za zlen zcap):=(hb4.cell (p:=⟨g,_,none⟩) (qac b5)).trans b5
 have HB4:=hZ hb4
 have HN3:=hZ (And.intro hn3 hn4)
 clear hb hb3 hb4 hn3 hn4 HM HB1 HN1 b0 b1 b2 b3 b4 b5 a0 a1 a2 a3 a4 a5
 refine hZ ?_
 go_wp2_with (first|(go_at_call 290;refine(qam _).mono ?_;rintro e w2 ⟨rfl,hww⟩;obtain rfl:=hww.symm)|(go_at_call 236;refine(HE.out _ HB4.out).mono ?_;rintro e w4 (⟨ps,rfl,hq⟩|⟨x,rfl,kc,cc,rfl,cx,hkp,hK⟩);(exact⟨rfl,hq⟩);refine Hid.out ?_))
 have hm4:=(hkp w2.heap.size hq1 (Array.getElem?_eq_some_iff.1 HN3.out.1).1).trans HN3.out.1
 have k0:w4.cell? ⟨w2.heap.size,0,none⟩=some (.string ytx):=by simp only [World.cell?,hm4];rfl
 have HK:=hZ hK
 clear hK hkp hm4 HN3 HB4 HE e0 e1 e2 e3 e4 e5
 refine hZ ?_
 go_wp2_with (fail)
 refine qai 7 (by kernel_rfl) (by kernel_rfl) ?_
 simp only [List.take_succ_cons,List.take_zero,List.drop_succ_cons,List.drop_zero]
 repeat still_step
 refine wpStill_nil ?_
 go_wp2_with (first|(go_at_call 375;refine(HK.out _ (by exact⟨rfl,rfl,rfl,rfl⟩)).mono ?_;rintro e w4 (⟨ps,rfl,hq⟩|⟨v,rfl,hq⟩);(exact⟨rfl,hq⟩);have HQ:=hZ hq;clear hq))
 exact HQ.out
theorem qgu (xb g o xcap:Nat) (mn u v:Int) (yn:Int) (ytr:Bool) (ytx:ByteArray) (ym:Int) (ya:Option Addr) (ylen ycap:Nat) (w:World) (Q:Ending→World→Prop) (a0:w.cell? ⟨g,o+6,none⟩=some (.int .i64 3)) (a1:w.cell? ⟨g,o+6+1,none⟩=some (.int .i64 yn)) (a2:w.cell? ⟨g,o+6+2,none⟩=some (.bool ytr)) (a3:w.cell? ⟨g,o+6+3,none⟩=some (.string ytx)) (a4:w.cell? ⟨g,o+6+4,none⟩=some (.int .i64 ym)) (a5:w.cell? ⟨g,o+6+5,none⟩=some (.slice ya ylen ycap)) (h0:mn≠0) (h3:mn≠3)
  (hM:∀w',Below w.heap.size w w'→Calls prog 318 #[bp xb,.agg #[.string ytx,.int .i64 ym]] w' fun e w2=>e=.returned (.tuple #[.int .i64 mn,.agg #[.int .i64 u,.int .i64 v]])∧Below w'.heap.size w' w2)
  (hQ:∀w',Below w.heap.size w w'→Q (.panicked (stopP (stopV 4))) w'):
  Calls prog 336 #[bp xb,.slice (some ⟨g,o,none⟩) 3 xcap] w Q:=by
 have HM:=hZ hM
 have HQ:=hZ hQ
 have e0:(mn==0)=false:=by simpa using h0
 have e3:(mn==3)=false:=by simpa using h3
 clear hM hQ
 go_enter func336,ntmps336
 go_wp2_with (first|(go_at_call 290;refine(qam _).mono ?_;rintro e w2 ⟨rfl,hww⟩;obtain rfl:=hww.symm)|(go_at_call 296;refine(qbt yn ytr ytx ym ya ylen ycap _).mono ?_;rintro e w2 ⟨rfl,hb⟩;refine Hid.out ?_))
 have HB1:Hid (Below w.heap.size w (w2.alloc (.cells #[.string ytx,.int .i64 ym] 382))):=hb.trans ((qab _ _).mono hb.size)
 clear hb
 refine hZ ?_
 go_wp2_with (first|(go_at_call 318;refine(HM.out _ HB1.out).mono ?_;rintro e w3 ⟨rfl,hb⟩;have HB3:=hZ (HB1.out.trans (hb.mono HB1.out.size));clear hb)|(go_at_call 290;refine(qax _).mono ?_;rintro e w4 ⟨rfl,o,rfl⟩))
 exact⟨rfl,HQ.out _ (HB3.out.trans (((qab _ _).alloc (by simp) _).mono HB3.out.size))⟩
theorem qfe (xb g o xcap:Nat) (yk yn:Int) (ytr:Bool) (ytx:ByteArray) (ym:Int) (ya:Option Addr) (ylen ycap:Nat) (w:World) (Q:Ending→World→Prop) (a0:w.cell? ⟨g,o+6,none⟩=some (.int .i64 yk)) (a1:w.cell? ⟨g,o+6+1,none⟩=some (.int .i64 yn)) (a2:w.cell? ⟨g,o+6+2,none⟩=some (.bool ytr)) (a3:w.cell? ⟨g,o+6+3,none⟩=some (.string ytx)) (a4:w.cell? ⟨g,o+6+4,none⟩=some (.int .i64 ym)) (a5:w.cell? ⟨g,o+6+5,none⟩=some (.slice ya ylen ycap)) (h3:yk≠3)
  (hQ:∀w',Below w.heap.size w w'→Q (.panicked (stopP (stopV 4))) w'):
  Calls prog 336 #[bp xb,.slice (some ⟨g,o,none⟩) 3 xcap] w Q:=by
 have HQ:=hZ hQ
 clear hQ
 go_enter func336,ntmps336
 go_wp2_with (first|(go_at_call 290;refine(qam _).mono ?_;rintro e w2 ⟨rfl,hww⟩;obtain rfl:=hww.symm)|(go_at_call 296;refine(qgk yk yn ytr ytx ym ya ylen ycap _ h3).mono ?_;rintro e w2 ⟨rfl,hb⟩))
 exact⟨rfl,HQ.out _ hb⟩
theorem qgw (xb n xcap:Nat) (xa:Option Addr) (w:World) (Q:Ending→World→Prop) (hn:n≠3)
  (hQ:∀w',Below w.heap.size w w'→Q (.panicked (stopP (stopV 4))) w'):
  Calls prog 336 #[bp xb,.slice xa n xcap] w Q:=by
 have HQ:=hZ hQ
 have hf:((n:Int)==3)=false:=by simp;omega
 clear hQ
 go_enter func336,ntmps336
 go_wp2_with (first|(go_at_call 290;refine(qax _).mono ?_;rintro e w2 ⟨rfl,o,rfl⟩))
 exact⟨rfl,HQ.out _ (qab _ _)⟩
end
section
open Sc
theorem qp5 (xb ab:Nat) (ba na:Option Addr) (bn bc nn nc:Nat) (w:World) (Q:Ending→World→Prop) (c3:w.cell? ⟨xb,3,none⟩=some (bp ab))
  (hE:Calls prog 359 #[bp ab,.slice na nn nc] w fun e w1=>e=.returned (.tuple #[])∧Calls prog 334 #[bp xb,.slice ba bn bc] w1 (RetP (fun v w2=>∃a n c,v=.slice a n c∧w2.cell? ⟨xb,3,none⟩=some (bp ab)∧
   Calls prog 360 #[bp ab,.slice na nn nc] w2 fun e w3=>e=.returned (.tuple #[])∧Calls prog 361 #[.slice a n c] w3 (RQ Q)) Q)):
  Calls prog 324 #[bp xb,.slice ba bn bc,.slice na nn nc] w Q:=by
 have HE:=hZ hE
 clear hE
 go_enter func324,ntmps324
 go_wp2_with (first|(go_at_call 359;refine HE.out.mono ?_;rintro e w1 ⟨rfl,h1⟩;have H1:=hZ h1;clear h1)|(go_at_call 334;refine H1.out.mono ?_;rintro e w2 (⟨ps,rfl,hq⟩|⟨v,rfl,a,n,c,rfl,cx,h2⟩);(exact⟨rfl,hq⟩);have H2:=hZ h2;clear h2)|(go_at_call 360;refine H2.out.mono ?_;rintro e w3 ⟨rfl,h3⟩;have H3:=hZ h3;clear h3)|(go_at_call 361;refine H3.out.mono ?_;rintro e w4 (⟨ps,rfl,hq⟩|⟨v,rfl,hq⟩);(exact⟨rfl,hq⟩);have HQ:=hZ hq;clear hq))
 exact HQ.out
theorem qhf (xb mb:Nat) (xn:Int) (xtr:Bool) (xtx:ByteArray) (xm:Int) (xa:Option Addr) (xlen xcap:Nat) (ba:Option Addr) (bn bc:Nat) (w:World) (Q:Ending→World→Prop)
  (hD:∀w',Lk (w.alloc (.cells (Dl.cells ⟨4,xn,xtr,xtx,xm,xa,xlen,xcap⟩) 134)) w'→Calls prog 325 #[.slice xa xlen xcap] w' (RetP (fun v w2=>∃na nn nc,v=.slice na nn nc∧nn≤1000000∧w2.cell? ⟨xb,0,none⟩=some (bp mb)∧∀w3,Lk w2 w3→Calls prog 324 #[bp xb,.slice ba bn bc,.slice na nn nc] w3 (RetP (fun v w4=>∃kc cc,v=.func (.func kc) #[] cc∧w4.cell? ⟨xb,0,none⟩=some (bp mb)∧
   ∀w5,Lk w4 w5→Calls prog 326 #[bp mb,.int .i64 (nn:Int),.func (.func kc) #[] cc] w5 (RX xb mb Q)) Q)) Q)):
  Calls prog 293 #[bp xb,.agg (Dl.cells ⟨4,xn,xtr,xtx,xm,xa,xlen,xcap⟩),.slice ba bn bc] w Q:=by
 have HD:=hZ hD
 clear hD
 go_enter func293,ntmps293
 go_wp2_with (first|(go_at_call 290;refine(qam _).mono ?_;rintro e w2 ⟨rfl,hww⟩;obtain rfl:=hww.symm)|(go_at_call 325;refine(HD.out _ (by exact⟨rfl,rfl,rfl,rfl⟩)).mono ?_;rintro e w2 (⟨ps,rfl,hq⟩|⟨v,rfl,na,nn,nc,rfl,hnn,d0,hk⟩);(exact⟨rfl,hq⟩);have HB:=hZ hk;clear hk;refine Hid.out ?_))
 refine hZ ?_
 go_wp2_with (fail)
 go_region_held2 (fun w'=>w'.cell? ⟨xb,0,none⟩=some (bp mb)) (first|(exact d0)|(exact HS1.out)|(exact HS2.out)|go_keep)
  (first
   |(go_at_call 324;refine(HB.out _ (by exact⟨rfl,rfl,rfl,rfl⟩)).mono ?_;rintro e w3 (⟨ps,rfl,hq⟩|⟨v,rfl,kc,cc,rfl,hc,hk⟩);(exact⟨rfl,hq⟩);have HS1:=hZ hc;have HK:=hZ hk;clear hc hk)
   |(go_at_call 326;refine(HK.out _ (by exact⟨rfl,rfl,rfl,rfl⟩)).mono ?_;rintro e w4 (⟨ps,rfl,hq⟩|⟨v,rfl,hc,hq⟩);(exact⟨rfl,hq⟩);have HS2:=hZ hc;have HQ:=hZ hq;clear hc hq))
 all_goals go_wp2
 all_goals exact HQ.out
theorem qiw (xb:Nat) (xk xn:Int) (xtr:Bool) (xtx:ByteArray) (xm:Int) (xa:Option Addr) (xlen xcap:Nat) (ba:Option Addr) (bn bc:Nat) (w:World) (Q:Ending→World→Prop) (h3:xk≠3) (h4:xk≠4)
  (hQ:∀w',Below w.heap.size w w'→Q (.panicked (stopP (stopV 4))) w'):
  Calls prog 293 #[bp xb,.agg (Dl.cells ⟨xk,xn,xtr,xtx,xm,xa,xlen,xcap⟩),.slice ba bn bc] w Q:=by
 have HQ:=hZ hQ
 have e3:(xk==3)=false:=by simpa using h3
 have e4:(xk==4)=false:=by simpa using h4
 clear hQ
 go_enter func293,ntmps293
 go_wp2_with (first|(go_at_call 290;refine(qax _).mono ?_;rintro e w2 ⟨rfl,o,rfl⟩))
 exact⟨rfl,HQ.out _ ((qab _ _).alloc (by simp) _)⟩
theorem qiv (xb mb:Nat) (xn:Int) (xtr:Bool) (xtx:ByteArray) (xm:Int) (xa:Option Addr) (xlen xcap:Nat) (ba:Option Addr) (bn bc:Nat) (w:World) (Q:Ending→World→Prop) (c0:w.cell? ⟨xb,0,none⟩=some (bp mb))
  (hE:∀w0,Lk (w.alloc (.cells (Dl.cells ⟨3,xn,xtr,xtx,xm,xa,xlen,xcap⟩) 134)) w0→∀w2,Below w0.heap.size w0 w2→∀w3,Lk (w2.alloc (.cells #[.string xtx,.int .i64 xm] 382)) w3→Calls prog 324 #[bp xb,.slice ba bn bc,.slice (some ⟨w2.heap.size,0,none⟩) 1 1] w3 (RetP (fun v w4=>∃kc cc,v=.func (.func kc) #[] cc∧w4.cell? ⟨xb,0,none⟩=some (bp mb)∧w4.heap[w.heap.size]? =some (.cells (Dl.cells ⟨3,xn,xtr,xtx,xm,xa,xlen,xcap⟩) 134 (0,0))∧
   ∀w5,Lk w4 w5→Calls prog 323 #[bp mb,.func (.func kc) #[] cc] w5 (RetP (fun v w6=>w6.cell? ⟨xb,0,none⟩=some (bp mb)∧w6.heap[w.heap.size]? =some (.cells (Dl.cells ⟨3,xn,xtr,xtx,xm,xa,xlen,xcap⟩) 134 (0,0))∧Q (.returned v) w6) Q)) Q)):
  Calls prog 293 #[bp xb,.agg (Dl.cells ⟨3,xn,xtr,xtx,xm,xa,xlen,xcap⟩),.slice ba bn bc] w Q:=by
 have HE:=hZ hE
 have l0:=qac c0
 have d0:(w.alloc (.cells (Dl.cells ⟨3,xn,xtr,xtx,xm,xa,xlen,xcap⟩) 134)).cell? ⟨xb,0,none⟩=some (bp mb):=qaj c0
 have HBox:Hid (∀w':World,w'.heap[w.heap.size]? =some (.cells (Dl.cells ⟨3,xn,xtr,xtx,xm,xa,xlen,xcap⟩) 134 (0,0))→w'.cell? ⟨w.heap.size,0,none⟩=some (.int .i64 3)∧w'.cell? ⟨w.heap.size,1,none⟩=some (.int .i64 xn)∧w'.cell? ⟨w.heap.size,2,none⟩=some (.bool xtr)∧w'.cell? ⟨w.heap.size,3,none⟩=some (.string xtx)∧w'.cell? ⟨w.heap.size,4,none⟩=some (.int .i64 xm)∧w'.cell? ⟨w.heap.size,5,none⟩=some (.slice xa xlen xcap)):=fun w' h=>by
  refine⟨?_,?_,?_,?_,?_,?_⟩ <;> (simp only [World.cell?,h];rfl)
 have hbx:=heap_alloc_new w (.cells (Dl.cells ⟨3,xn,xtr,xtx,xm,xa,xlen,xcap⟩) 134)
 obtain⟨b0,b1,b2,b3,b4,b5⟩:=HBox.out _ hbx
 have HBx:=hZ hbx
 clear hE hbx
 go_enter func293,ntmps293
 go_wp2_with (fail)
 generalize hW:w.alloc (.cells (Dl.cells ⟨3,xn,xtr,xtx,xm,xa,xlen,xcap⟩) 134)=W at HE d0 b0 b1 b2 b3 b4 b5 HBx⊢
 clear hW
 go_region_held2 (fun w'=>w'.cell? ⟨xb,0,none⟩=some (bp mb)∧w'.cell? ⟨w.heap.size,0,none⟩=some (.int .i64 3)∧w'.cell? ⟨w.heap.size,1,none⟩=some (.int .i64 xn)∧w'.cell? ⟨w.heap.size,2,none⟩=some (.bool xtr)∧w'.cell? ⟨w.heap.size,3,none⟩=some (.string xtx)∧w'.cell? ⟨w.heap.size,4,none⟩=some (.int .i64 xm)∧w'.cell? ⟨w.heap.size,5,none⟩=some (.slice xa xlen xcap))
  (first|(exact⟨d0,b0,b1,b2,b3,b4,b5⟩)|(exact HS1.out)|(exact⟨qaj HS1.out.1,qaj HS1.out.2.1,qaj HS1.out.2.2.1,qaj HS1.out.2.2.2.1,qaj HS1.out.2.2.2.2.1,qaj HS1.out.2.2.2.2.2.1,qaj HS1.out.2.2.2.2.2.2⟩)|(exact HS2.out)|(exact HS3.out)|go_keep)
  (first
   |(go_at_call 296;refine(qbt xn xtr xtx xm xa xlen xcap _).mono ?_;rintro e w2 ⟨rfl,hb⟩;have HS1:=hZ (And.intro ((hb.cell (p:=⟨xb,0,none⟩) (qac d0)).trans d0) (HBox.out w2 ((hb.block _ (Array.getElem?_eq_some_iff.1 HBx.out).1).trans HBx.out)));have HB1:=hZ hb;clear hb)
   |(go_at_call 324;refine(HE.out _ (by exact⟨rfl,rfl,rfl,rfl⟩) _ HB1.out _ (by exact⟨rfl,rfl,rfl,rfl⟩)).mono ?_;rintro e w3 (⟨ps,rfl,hq⟩|⟨v,rfl,kc,cc,rfl,hc,hx,hk⟩);(exact⟨rfl,hq⟩);have HS2:=hZ (And.intro hc (HBox.out _ hx));have HK:=hZ hk;clear hc hx hk)
   |(go_at_call 323;refine(HK.out _ (by exact⟨rfl,rfl,rfl,rfl⟩)).mono ?_;rintro e w4 (⟨ps,rfl,hq⟩|⟨v,rfl,hc,hx,hq⟩);(exact⟨rfl,hq⟩);have HS3:=hZ (And.intro hc (HBox.out _ hx));have HQ:=hZ hq;clear hc hx hq))
 all_goals go_wp2
 all_goals exact HQ.out
end
section
open Sc
def IdRow (w:World) (na:Option Addr) (ids:List (ByteArray×Int)):Prop:=∀i p,ids[i]? =some p→∃g,na=some ⟨g,0,none⟩∧w.cell? ⟨g,i*2,none⟩=some (.string p.1)∧w.cell? ⟨g,i*2+1,none⟩=some (.int .i64 p.2)
abbrev idS (p:ByteArray×Int):Sc.Id:=(p.1.data.toList,p.2)
def Has (ids:List (ByteArray×Int)) (t:ByteArray) (m:Int):Bool:=(ids.map idS).contains (t.data.toList,m)
def IdxIs (r:Int) (b:Bool):Prop:=decide (0≤r)=b
theorem qk1 {a b:ByteArray} (h:a.data.toList=b.data.toList):a=b:=by
 cases a;cases b;simp only at h;exact congrArg ByteArray.mk (Array.toList_inj.1 h)
theorem qse (ids:List (ByteArray×Int)) (na:Option Addr) (nc:Nat) (t:ByteArray) (m:Int) (w:World) (hr:IdRow w na ids) (hn:ids.length≤1000000):
  Calls prog 386 #[.slice na ids.length nc,idV t m] w fun e w'=>∃r:Int,e=.returned (.int .i64 r)∧IdxIs r (Has ids t m)∧Below w.heap.size w w':=by
 have HR:=hZ hr
 obtain⟨nn,hnn⟩:∃nn,nn=ids.length:=⟨_,rfl⟩
 rw [←hnn]at hn⊢
 have HN:=hZ hnn
 clear hr hnn
 go_enter func386,ntmps386
 go_wp2
 go_loopw [8] (fun c wr=>∃(k:Nat),k≤nn∧c=.int .i64 (k:Int)∧((ids.take k).map idS).contains (t.data.toList,m)=false∧Lk (w.alloc (.cells #[.string t,.int .i64 m] 382)) wr) (fun c _=>nn-(intOf c).toNat)
 case atStart=>exact⟨0,Nat.zero_le _,rfl,rfl,⟨rfl,rfl,rfl,rfl⟩⟩
 case round=>
  obtain⟨k,hk,rfl,hno,hl⟩:=hrel
  have HNo:=hZ hno
  have HL:=hZ hl
  have hbx:=heap_alloc_new w (.cells #[.string t,.int .i64 m] 382)
  have x0:wr.cell? ⟨w.heap.size,0,none⟩=some (.string t):=by simp only [World.cell?,hl.heap,hbx];rfl
  have x1:wr.cell? ⟨w.heap.size,1,none⟩=some (.int .i64 m):=by simp only [World.cell?,hl.heap,hbx];rfl
  clear hno hbx
  by_cases hlt:k<nn
  ·have hkl:k<ids.length:=by rw [←HN.out];exact hlt
   have hp:ids[k]? =some ids[k]:=List.getElem?_eq_getElem hkl
   obtain⟨⟨pt,pm⟩,hpe⟩:∃p,p=ids[k]:=⟨_,rfl⟩
   rw [←hpe]at hp
   obtain⟨g,rfl,r0,r1⟩:=HR.out k _ hp
   have r0':wr.cell? ⟨g,k*2,none⟩=some (.string pt):=(qas hl _).trans (qaj r0)
   have r1':wr.cell? ⟨g,k*2+1,none⟩=some (.int .i64 pm):=(qas hl _).trans (qaj r1)
   have htk:ids.take (k+1)=ids.take k++[(pt,pm)]:=by rw [List.take_add_one,hp];rfl
   have HTk:=hZ htk
   have HMem:Hid ((pt,pm)∈ids):=List.mem_of_getElem? hp
   have hkl':(k:Int)<(nn:Int):=by omega
   clear hp hpe r0 r1 hl htk
   by_cases hid:idS (pt,pm)=(t.data.toList,m)
   ·have HId:=hZ hid
    simp only [idS,Prod.mk.injEq]at hid
    obtain⟨h1,rfl⟩:=hid
    obtain rfl:=qk1 h1
    clear h1
    go_wp2
    go_region
    go_wp2
    go_ret
    refine⟨k,rfl,?_,bl1 ⟨HL.out.heap,HL.out.tape,HL.out.os,HL.out.output⟩⟩
    have:Has ids pt pm=true:=by
     unfold Has
     rw [List.contains_iff_mem];exact List.mem_map.2 ⟨_,HMem.out,rfl⟩
    rw [this];simp [IdxIs]
   ·have HId:=hZ hid
    have hcase:(t=pt∧¬m=pm)∨¬t.toList=pt.toList:=by
     by_cases h1:t.toList=pt.toList
     ·rw [ByteArray.toList_eq,ByteArray.toList_eq]at h1
      left
      refine⟨qk1 h1,fun h2=>hid ?_⟩
      simp [idS,h1,h2]
     ·exact .inr h1
    clear hid
    have fin:((ids.take (k+1)).map idS).contains (t.data.toList,m)=false:=by
     rw [HTk.out,List.map_append]
     have h1:=HNo.out
     have h2:=HId.out
     simp only [List.contains_eq_mem,decide_eq_false_iff_not,List.mem_append,not_or]at h1⊢
     exact⟨h1,fun h=>by simp only [List.map_cons,List.map_nil,List.mem_singleton]at h;exact h2 h.symm⟩
    have HFin:=hZ fin
    clear fin HTk HId HNo
    rcases hcase with⟨rfl,hm⟩|ht
    all_goals
     go_wp2
     go_region
     go_wp2
     go_roundw
     case rel=>exact⟨k+1,by omega,by go_num,HFin.out,⟨HL.out.heap,HL.out.tape,HL.out.os,HL.out.output⟩⟩
     case measure=>simp [intOf];omega
  ·have hke:k=nn:=by omega
   have htk:ids.take k=ids:=by rw [hke,HN.out];simp
   have hno:=HNo.out
   rw [htk]at hno
   have HNo2:=hZ hno
   have hnl:¬(k:Int)<(nn:Int):=by omega
   clear hke htk hno hl
   go_wp2
   go_ret
   exact⟨-1,rfl,by unfold Has;rw [HNo2.out];rfl,bl1 HL.out⟩
theorem qjt (ids:List (ByteArray×Int)) (na:Option Addr) (nc:Nat) (t:ByteArray) (m:Int) (w:World) (hr:IdRow w na ids) (hn:ids.length≤1000000):
  Calls prog 362 #[.slice na ids.length nc,idV t m] w fun e w'=>e=.returned (.bool (Has ids t m))∧Below w.heap.size w w':=by
 have hr':IdRow (w.alloc (.cells #[.string t,.int .i64 m] 382)) na ids:=fun i p hp=>by
  obtain⟨g,h1,h2,h3⟩:=hr i p hp
  exact⟨g,h1,qaj h2,qaj h3⟩
 have HI:=hZ (qse ids na nc t m _ hr' hn)
 clear hr hr'
 go_enter func362,ntmps362
 go_wp2_with (first|(go_at_call 386;refine HI.out.mono ?_;rintro e w2 ⟨r,rfl,hd,hb⟩;have HD:=hZ hd;have HB:=hZ hb;clear hd hb))
 go_ret
 exact⟨by rw [←(HD.out:decide (0≤r)=_)];rfl,(qab _ _).trans (HB.out.mono (by simp))⟩
end
end Go.Proofs.YtldaocpojcfljaaGreatDoor
