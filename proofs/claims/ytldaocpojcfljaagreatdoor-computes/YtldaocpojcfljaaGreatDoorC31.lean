import Derived.Test.YtldaocpojcfljaaGreatDoorC30
set_option maxRecDepth 100000
set_option maxHeartbeats 4000000
namespace Go.Proofs.YtldaocpojcfljaaGreatDoor
open Tryz hiding parts
open Go.RowKit Go.Shelf
section
open Sc
def RQ (Q:Ending→World→Prop):Ending→World→Prop:=RetP (fun v w=>Q (.returned v) w) Q
theorem RQ.of {Q:Ending→World→Prop} {e:Ending} {w:World} (h:Q e w) (he:(∃v,e=.returned v)∨(∃ps,e=.panicked ps)):RQ Q e w:=by
 rcases he with⟨v,rfl⟩|⟨ps,rfl⟩
 ·exact .inr ⟨v,rfl,h⟩
 ·exact .inl ⟨ps,rfl,h⟩
theorem qpb (xb mb:Nat) (xk xn:Int) (xtr:Bool) (xtx:ByteArray) (xm:Int) (xa:Option Addr) (xlen xcap:Nat) (w:World) (Q:Ending→World→Prop) (hxb:xb<w.heap.size)
  (hR:∀w',Lk (w.alloc (.cells (Dl.cells ⟨xk,xn,xtr,xtx,xm,xa,xlen,xcap⟩) 134)) w'→Calls prog 231 #[bp xb,.agg (Dl.cells ⟨xk,xn,xtr,xtx,xm,xa,xlen,xcap⟩)] w' (RetP (fun v w2=>∃e2:Dl,v=.agg e2.cells∧w2.heap[w.heap.size]? =some (.cells (Dl.cells ⟨xk,xn,xtr,xtx,xm,xa,xlen,xcap⟩) 134 (0,0))∧w2.cell? ⟨xb,0,none⟩=some (bp mb)∧
   ∀W,Lk (set6 w2 w.heap.size (.int .i64 e2.k) (.int .i64 e2.n) (.bool e2.tr) (.string e2.tx) (.int .i64 e2.m) (.slice e2.a e2.len e2.cap)) W→
    (e2.k=3→∀W',Below W.heap.size W W'→Calls prog 295 #[bp xb,idV e2.tx e2.m] W' (RQ Q))∧(e2.k=4→Calls prog 297 #[bp xb,.agg e2.cells] W (RQ Q))∧(e2.k≠3→e2.k≠4→Calls prog 298 #[bp mb,.agg e2.cells] W (RQ Q))) Q)):
  Calls prog 236 #[bp xb,.agg (Dl.cells ⟨xk,xn,xtr,xtx,xm,xa,xlen,xcap⟩)] w Q:=by
 have HR:=hZ hR
 clear hR
 go_enter func236,ntmps236
 go_wp2_with (go_at_call 231;refine(HR.out _ (by exact⟨rfl,rfl,rfl,rfl⟩)).mono ?_;rintro e w2 (⟨ps,rfl,hq⟩|⟨v,rfl,⟨zk,zn,ztr,ztx,zm,za,zlen,zcap⟩,rfl,hbx,cx,hK⟩);(exact⟨rfl,hq⟩);refine Hid.out ?_)
 have t0:w2.cell? ⟨w.heap.size,0,none⟩=some (.int .i64 xk):=by simp only [World.cell?,hbx];rfl
 have t1:w2.cell? ⟨w.heap.size,1,none⟩=some (.int .i64 xn):=by simp only [World.cell?,hbx];rfl
 have t2:w2.cell? ⟨w.heap.size,2,none⟩=some (.bool xtr):=by simp only [World.cell?,hbx];rfl
 have t3:w2.cell? ⟨w.heap.size,3,none⟩=some (.string xtx):=by simp only [World.cell?,hbx];rfl
 have t4:w2.cell? ⟨w.heap.size,4,none⟩=some (.int .i64 xm):=by simp only [World.cell?,hbx];rfl
 have t5:w2.cell? ⟨w.heap.size,5,none⟩=some (.slice xa xlen xcap):=by simp only [World.cell?,hbx];rfl
 have tf:∀o,w2.frozen? ⟨w.heap.size,o,none⟩=false:=fun o=>by simp [World.frozen?,hbx]
 have hs6:=qed (v0:=.int .i64 zk) (v1:=.int .i64 zn) (v2:=.bool ztr) (v3:=.string ztx) (v4:=.int .i64 zm) (v5:=.slice za zlen zcap) hbx
 have s0:(set6 w2 w.heap.size (.int .i64 zk) (.int .i64 zn) (.bool ztr) (.string ztx) (.int .i64 zm) (.slice za zlen zcap)).cell? ⟨w.heap.size,0,none⟩=some (.int .i64 zk):=by simp only [World.cell?,hs6];rfl
 have s1:(set6 w2 w.heap.size (.int .i64 zk) (.int .i64 zn) (.bool ztr) (.string ztx) (.int .i64 zm) (.slice za zlen zcap)).cell? ⟨w.heap.size,1,none⟩=some (.int .i64 zn):=by simp only [World.cell?,hs6];rfl
 have s2:(set6 w2 w.heap.size (.int .i64 zk) (.int .i64 zn) (.bool ztr) (.string ztx) (.int .i64 zm) (.slice za zlen zcap)).cell? ⟨w.heap.size,2,none⟩=some (.bool ztr):=by simp only [World.cell?,hs6];rfl
 have s3:(set6 w2 w.heap.size (.int .i64 zk) (.int .i64 zn) (.bool ztr) (.string ztx) (.int .i64 zm) (.slice za zlen zcap)).cell? ⟨w.heap.size,3,none⟩=some (.string ztx):=by simp only [World.cell?,hs6];rfl
 have s4:(set6 w2 w.heap.size (.int .i64 zk) (.int .i64 zn) (.bool ztr) (.string ztx) (.int .i64 zm) (.slice za zlen zcap)).cell? ⟨w.heap.size,4,none⟩=some (.int .i64 zm):=by simp only [World.cell?,hs6];rfl
 have s5:(set6 w2 w.heap.size (.int .i64 zk) (.int .i64 zn) (.bool ztr) (.string ztx) (.int .i64 zm) (.slice za zlen zcap)).cell? ⟨w.heap.size,5,none⟩=some (.slice za zlen zcap):=by simp only [World.cell?,hs6];rfl
 have sx:(set6 w2 w.heap.size (.int .i64 zk) (.int .i64 zn) (.bool ztr) (.string ztx) (.int .i64 zm) (.slice za zlen zcap)).cell? ⟨xb,0,none⟩=some (bp mb):=by
  have:=qnx (W:=w2) (b:=w.heap.size) (c:=xb) (v0:=.int .i64 zk) (v1:=.int .i64 zn) (v2:=.bool ztr) (v3:=.string ztx) (v4:=.int .i64 zm) (v5:=.slice za zlen zcap) (by omega)
  simp only [World.cell?,this]at cx⊢;exact cx
 have HK:=hZ hK
 clear hK hbx hs6 HR
 by_cases h3:zk=3
 ·subst h3
  have HK3:Hid (∀W',Below (set6 w2 w.heap.size (.int .i64 3) (.int .i64 zn) (.bool ztr) (.string ztx) (.int .i64 zm) (.slice za zlen zcap)).heap.size (set6 w2 w.heap.size (.int .i64 3) (.int .i64 zn) (.bool ztr) (.string ztx) (.int .i64 zm) (.slice za zlen zcap)) W'→Calls prog 295 #[bp xb,.agg #[.string ztx,.int .i64 zm]] W' (RQ Q)):=(HK.out (set6 w2 w.heap.size (.int .i64 3) (.int .i64 zn) (.bool ztr) (.string ztx) (.int .i64 zm) (.slice za zlen zcap)) ⟨rfl,rfl,rfl,rfl⟩).1 rfl
  clear HK
  refine hZ ?_
  go_wp2_with (first|(go_at_call 296;refine(qbt zn ztr ztx zm za zlen zcap _).mono ?_;rintro e w3 ⟨rfl,hb⟩;have HB:=hZ hb;clear hb)|(go_at_call 295;refine(HK3.out _ HB.out).mono ?_;rintro e w3 (⟨ps,rfl,hq⟩|⟨v,rfl,hq⟩);(exact⟨rfl,hq⟩);have HQ:=hZ hq;clear hq))
  exact HQ.out
 ·by_cases h4:zk=4
  ·subst h4
   refine hZ ?_
   go_wp2_with (first|(go_at_call 297;refine((HK.out _ (by exact⟨rfl,rfl,rfl,rfl⟩)).2.1 rfl).mono ?_;rintro e w3 (⟨ps,rfl,hq⟩|⟨v,rfl,hq⟩);(exact⟨rfl,hq⟩);have HQ:=hZ hq;clear hq))
   exact HQ.out
  ·have e3:(zk==3)=false:=by simpa using h3
   have e4:(zk==4)=false:=by simpa using h4
   have HK3:Hid (∀W,Lk (set6 w2 w.heap.size (.int .i64 zk) (.int .i64 zn) (.bool ztr) (.string ztx) (.int .i64 zm) (.slice za zlen zcap)) W→Calls prog 298 #[bp mb,.agg #[.int .i64 zk,.int .i64 zn,.bool ztr,.string ztx,.int .i64 zm,.slice za zlen zcap]] W (RQ Q)):=fun W hW=>(HK.out W hW).2.2 h3 h4
   clear HK h3 h4
   refine hZ ?_
   go_wp2_with (fail)
   unfold set6 at s0 s1 s2 s3 s4 s5 sx HK3
   generalize (((((w2.setCell ⟨w.heap.size,0,none⟩ (.int .i64 zk)).setCell ⟨w.heap.size,1,none⟩ (.int .i64 zn)).setCell ⟨w.heap.size,2,none⟩ (.bool ztr)).setCell ⟨w.heap.size,3,none⟩ (.string ztx)).setCell ⟨w.heap.size,4,none⟩ (.int .i64 zm)).setCell ⟨w.heap.size,5,none⟩ (.slice za zlen zcap)=W at s0 s1 s2 s3 s4 s5 sx HK3⊢
   clear t0 t1 t2 t3 t4 t5 tf cx
   refine qai 5 (by kernel_rfl) (by kernel_rfl) ?_
   simp only [List.take_succ_cons,List.take_zero,List.drop_succ_cons,List.drop_zero]
   repeat still_step
   refine wpStill_nil ?_
   go_wp2_with (first|(go_at_call 298;refine(HK3.out _ (by exact⟨rfl,rfl,rfl,rfl⟩)).mono ?_;rintro e w3 (⟨ps,rfl,hq⟩|⟨v,rfl,hq⟩);(exact⟨rfl,hq⟩);have HQ:=hZ hq;clear hq))
   exact HQ.out
end
section
open Sc
def RX (xb mb:Nat) (Q:Ending→World→Prop):Ending→World→Prop:=RetP (fun v w=>w.cell? ⟨xb,0,none⟩=some (bp mb)∧Q (.returned v) w) Q
def tlD (g o cap k:Nat):Option Addr:=if cap=k then some ⟨g,o,none⟩else some ⟨g,o+k*6,none⟩
theorem qdh (g o n cap:Nat) (hc:n+1≤cap) (w:World):(Instr.slice 132 (.slice (some ⟨g,o,none⟩) (n+1) cap) (some (.int .i64 1)) none none).run prog w=.ok (.slice (tlD g o cap 1) n (cap-1)) w:=by
 have h1:1≤cap:=by omega
 simp [Instr.slice,Instr.sliceBounds,run_underlying underlying132,go_sem,tlD]
 omega
theorem qdg (g o n cap:Nat) (hc:n+2≤cap) (w:World):(Instr.slice 132 (.slice (some ⟨g,o,none⟩) (n+2) cap) (some (.int .i64 2)) none none).run prog w=.ok (.slice (tlD g o cap 2) n (cap-2)) w:=by
 have h1:1≤cap:=by omega
 have h2:2≤cap:=by omega
 simp [Instr.slice,Instr.sliceBounds,run_underlying underlying132,go_sem,tlD]
 omega
theorem qjd (xb mb:Nat) (xk xn:Int) (xtr:Bool) (xtx:ByteArray) (xm:Int) (xa:Option Addr) (n xcap:Nat) (w:World) (Q:Ending→World→Prop) (c0:w.cell? ⟨xb,0,none⟩=some (bp mb)) (hn:n+1≤1000000)
  (hW:∀w',Lk (w.alloc (.cells (Dl.cells ⟨xk,xn,xtr,xtx,xm,xa,n+1,xcap⟩) 134)) w'→Calls prog 232 #[bp xb,.agg (Dl.cells ⟨xk,xn,xtr,xtx,xm,xa,n+1,xcap⟩)] w' fun e w2=>e=.returned (.string ⟨#[]⟩)∧Below w'.heap.size w' w2)
  (hE:∀w',Below w.heap.size w w'→Calls prog 334 #[bp xb,.slice xa (n+1) xcap] w' (RetP (fun v w2=>∃a l c,v=.slice a l c∧w2.cell? ⟨xb,0,none⟩=some (bp mb)∧∀w3,Lk w2 w3→Calls prog 333 #[bp mb,.slice a l c] w3 (RX xb mb Q)) Q)):
  Calls prog 297 #[bp xb,.agg (Dl.cells ⟨xk,xn,xtr,xtx,xm,xa,n+1,xcap⟩)] w Q:=by
 have l0:=qac c0
 have HW:=hZ hW
 have HE:=hZ hE
 clear hW hE
 have hpos:(0:Int)<(n:Int)+1:=by omega
 go_enter func297,ntmps297
 go_wp2_with (first|(go_at_call 290;refine(qam _).mono ?_;rintro e w2 ⟨rfl,hww⟩;obtain rfl:=hww.symm)|(go_at_call 232;refine(HW.out _ (by exact⟨rfl,rfl,rfl,rfl⟩)).mono ?_;rintro e w2 ⟨rfl,hb⟩;refine Hid.out ?_))
 have hb2:Below w.heap.size w w2:=(qab _ _).trans (hb.mono (by simp))
 have d0:=(hb2.cell (p:=⟨xb,0,none⟩) l0).trans c0
 have HB2:=hZ hb2
 clear hb hb2 HW
 refine hZ ?_
 go_wp2_with (fail)
 go_region_held2 (fun w'=>w'.cell? ⟨xb,0,none⟩=some (bp mb)) (first|(exact d0)|(exact HS1.out)|(exact HS2.out)|go_keep)
  (first
   |(go_at_call 334;refine(HE.out _ (HB2.out.trans ((bl0 (by exact⟨rfl,rfl,rfl,rfl⟩)).mono HB2.out.size))).mono ?_;rintro e w3 (⟨ps,rfl,hq⟩|⟨v,rfl,a,l,c,rfl,hc,hk⟩);(exact⟨rfl,hq⟩);have HS1:=hZ hc;have HK:=hZ hk;clear hc hk)
   |(go_at_call 333;refine(HK.out _ (by exact⟨rfl,rfl,rfl,rfl⟩)).mono ?_;rintro e w4 (⟨ps,rfl,hq⟩|⟨v,rfl,hc,hq⟩);(exact⟨rfl,hq⟩);have HS2:=hZ hc;have HQ:=hZ hq;clear hc hq))
 all_goals go_wp2
 all_goals exact HQ.out
end
section
open Sc
theorem qjc (xb _mb:Nat) (xk xn:Int) (xtr:Bool) (xtx:ByteArray) (xm:Int) (xa:Option Addr) (n xcap:Nat) (w:World) (Q:Ending→World→Prop) (hn:n+1≤1000000)
  (hW:∀w',Lk (w.alloc (.cells (Dl.cells ⟨xk,xn,xtr,xtx,xm,xa,n+1,xcap⟩) 134)) w'→Calls prog 232 #[bp xb,.agg (Dl.cells ⟨xk,xn,xtr,xtx,xm,xa,n+1,xcap⟩)] w' fun e w2=>e=.returned (.string ⟨#[105,102]⟩)∧Below w'.heap.size w' w2)
  (hE:∀w',Below w.heap.size w w'→Calls prog 335 #[bp xb,.slice xa (n+1) xcap] w' (RQ Q)):
  Calls prog 297 #[bp xb,.agg (Dl.cells ⟨xk,xn,xtr,xtx,xm,xa,n+1,xcap⟩)] w Q:=by
 have HE:=hZ hE
 clear hE
 have HW:=hZ hW
 clear hW
 have hpos:(0:Int)<(n:Int)+1:=by omega
 go_enter func297,ntmps297
 go_wp2_with (first|(go_at_call 290;refine(qam _).mono ?_;rintro e w2 ⟨rfl,hww⟩;obtain rfl:=hww.symm)|(go_at_call 232;refine(HW.out _ (by exact⟨rfl,rfl,rfl,rfl⟩)).mono ?_;rintro e w2 ⟨rfl,hb⟩;refine Hid.out ?_))
 have hb2:Below w.heap.size w w2:=(qab _ _).trans (hb.mono (by simp))
 have HB2:=hZ hb2
 clear hb hb2 HW
 refine hZ ?_
 go_wp2_with (first|(go_at_call 335;refine(HE.out _ (by first|(exact HB2.out)|(exact HB2.out.trans ((bl0 (by exact⟨rfl,rfl,rfl,rfl⟩)).mono HB2.out.size)))).mono ?_;rintro e w3 (⟨ps,rfl,hq⟩|⟨v,rfl,hq⟩);(exact⟨rfl,hq⟩);have HQ:=hZ hq;clear hq))
 exact HQ.out
theorem qi9 (xb _mb:Nat) (xk xn:Int) (xtr:Bool) (xtx:ByteArray) (xm:Int) (xa:Option Addr) (n xcap:Nat) (w:World) (Q:Ending→World→Prop) (hn:n+1≤1000000)
  (hW:∀w',Lk (w.alloc (.cells (Dl.cells ⟨xk,xn,xtr,xtx,xm,xa,n+1,xcap⟩) 134)) w'→Calls prog 232 #[bp xb,.agg (Dl.cells ⟨xk,xn,xtr,xtx,xm,xa,n+1,xcap⟩)] w' fun e w2=>e=.returned (.string ⟨#[115,101,116,33]⟩)∧Below w'.heap.size w' w2)
  (hE:∀w',Below w.heap.size w w'→Calls prog 336 #[bp xb,.slice xa (n+1) xcap] w' (RQ Q)):
  Calls prog 297 #[bp xb,.agg (Dl.cells ⟨xk,xn,xtr,xtx,xm,xa,n+1,xcap⟩)] w Q:=by
 have HE:=hZ hE
 clear hE
 have HW:=hZ hW
 clear hW
 have hpos:(0:Int)<(n:Int)+1:=by omega
 go_enter func297,ntmps297
 go_wp2_with (first|(go_at_call 290;refine(qam _).mono ?_;rintro e w2 ⟨rfl,hww⟩;obtain rfl:=hww.symm)|(go_at_call 232;refine(HW.out _ (by exact⟨rfl,rfl,rfl,rfl⟩)).mono ?_;rintro e w2 ⟨rfl,hb⟩;refine Hid.out ?_))
 have hb2:Below w.heap.size w w2:=(qab _ _).trans (hb.mono (by simp))
 have HB2:=hZ hb2
 clear hb hb2 HW
 refine hZ ?_
 go_wp2_with (first|(go_at_call 336;refine(HE.out _ (by first|(exact HB2.out)|(exact HB2.out.trans ((bl0 (by exact⟨rfl,rfl,rfl,rfl⟩)).mono HB2.out.size)))).mono ?_;rintro e w3 (⟨ps,rfl,hq⟩|⟨v,rfl,hq⟩);(exact⟨rfl,hq⟩);have HQ:=hZ hq;clear hq))
 exact HQ.out
theorem qjb (xb _mb:Nat) (xk xn:Int) (xtr:Bool) (xtx:ByteArray) (xm:Int) (xa:Option Addr) (n xcap:Nat) (w:World) (Q:Ending→World→Prop) (hn:n+1≤1000000)
  (hW:∀w',Lk (w.alloc (.cells (Dl.cells ⟨xk,xn,xtr,xtx,xm,xa,n+1,xcap⟩) 134)) w'→Calls prog 232 #[bp xb,.agg (Dl.cells ⟨xk,xn,xtr,xtx,xm,xa,n+1,xcap⟩)] w' fun e w2=>e=.returned (.string ⟨#[108,101,116]⟩)∧Below w'.heap.size w' w2)
  (hE:∀w',Below w.heap.size w w'→Calls prog 337 #[bp xb,.slice xa (n+1) xcap] w' (RQ Q)):
  Calls prog 297 #[bp xb,.agg (Dl.cells ⟨xk,xn,xtr,xtx,xm,xa,n+1,xcap⟩)] w Q:=by
 have HE:=hZ hE
 clear hE
 have HW:=hZ hW
 clear hW
 have hpos:(0:Int)<(n:Int)+1:=by omega
 go_enter func297,ntmps297
 go_wp2_with (first|(go_at_call 290;refine(qam _).mono ?_;rintro e w2 ⟨rfl,hww⟩;obtain rfl:=hww.symm)|(go_at_call 232;refine(HW.out _ (by exact⟨rfl,rfl,rfl,rfl⟩)).mono ?_;rintro e w2 ⟨rfl,hb⟩;refine Hid.out ?_))
 have hb2:Below w.heap.size w w2:=(qab _ _).trans (hb.mono (by simp))
 have HB2:=hZ hb2
 clear hb hb2 HW
 refine hZ ?_
 go_wp2_with (first|(go_at_call 337;refine(HE.out _ (by first|(exact HB2.out)|(exact HB2.out.trans ((bl0 (by exact⟨rfl,rfl,rfl,rfl⟩)).mono HB2.out.size)))).mono ?_;rintro e w3 (⟨ps,rfl,hq⟩|⟨v,rfl,hq⟩);(exact⟨rfl,hq⟩);have HQ:=hZ hq;clear hq))
 exact HQ.out
theorem qdn (xb _mb:Nat) (xk xn:Int) (xtr:Bool) (xtx:ByteArray) (xm:Int) (xa:Option Addr) (n xcap:Nat) (w:World) (Q:Ending→World→Prop) (hn:n+1≤1000000) (hl:n+1≠2)
  (hW:∀w',Lk (w.alloc (.cells (Dl.cells ⟨xk,xn,xtr,xtx,xm,xa,n+1,xcap⟩) 134)) w'→Calls prog 232 #[bp xb,.agg (Dl.cells ⟨xk,xn,xtr,xtx,xm,xa,n+1,xcap⟩)] w' fun e w2=>e=.returned (.string ⟨#[113,117,111,116,101]⟩)∧Below w'.heap.size w' w2)
  (hQ:∀w',Below w.heap.size w w'→Q (.panicked (stopP (stopV 4))) w'):
  Calls prog 297 #[bp xb,.agg (Dl.cells ⟨xk,xn,xtr,xtx,xm,xa,n+1,xcap⟩)] w Q:=by
 have HQ:=hZ hQ
 clear hQ
 have HW:=hZ hW
 clear hW
 have hpos:(0:Int)<(n:Int)+1:=by omega
 have hf:((n:Int)+1==2)=false:=by simp;omega
 go_enter func297,ntmps297
 go_wp2_with (first|(go_at_call 290;refine(qam _).mono ?_;rintro e w2 ⟨rfl,hww⟩;obtain rfl:=hww.symm)|(go_at_call 232;refine(HW.out _ (by exact⟨rfl,rfl,rfl,rfl⟩)).mono ?_;rintro e w2 ⟨rfl,hb⟩;refine Hid.out ?_))
 have hb2:Below w.heap.size w w2:=(qab _ _).trans (hb.mono (by simp))
 have HB2:=hZ hb2
 clear hb hb2 HW
 refine hZ ?_
 go_wp2_with (first|(go_at_call 290;refine(qax _).mono ?_;rintro e w3 ⟨rfl,o,rfl⟩))
 exact⟨rfl,HQ.out _ (HB2.out.trans ((qab _ _).mono HB2.out.size))⟩
theorem qda (xb _mb:Nat) (xk xn:Int) (xtr:Bool) (xtx:ByteArray) (xm:Int) (xa:Option Addr) (n xcap:Nat) (w:World) (Q:Ending→World→Prop) (hn:n+1≤1000000) (hl:n+1<3)
  (hW:∀w',Lk (w.alloc (.cells (Dl.cells ⟨xk,xn,xtr,xtx,xm,xa,n+1,xcap⟩) 134)) w'→Calls prog 232 #[bp xb,.agg (Dl.cells ⟨xk,xn,xtr,xtx,xm,xa,n+1,xcap⟩)] w' fun e w2=>e=.returned (.string ⟨#[108,97,109,98,100,97]⟩)∧Below w'.heap.size w' w2)
  (hQ:∀w',Below w.heap.size w w'→Q (.panicked (stopP (stopV 4))) w'):
  Calls prog 297 #[bp xb,.agg (Dl.cells ⟨xk,xn,xtr,xtx,xm,xa,n+1,xcap⟩)] w Q:=by
 have hcase:n=0∨n=1:=by omega
 clear hl hn
 rcases hcase with rfl|rfl
 all_goals
  have HQ:=hZ hQ
  have HW:=hZ hW
  clear hW hQ
  go_enter func297,ntmps297
  go_wp2_with (first|(go_at_call 290;refine(qam _).mono ?_;rintro e w2 ⟨rfl,hww⟩;obtain rfl:=hww.symm)|(go_at_call 232;refine(HW.out _ (by exact⟨rfl,rfl,rfl,rfl⟩)).mono ?_;rintro e w2 ⟨rfl,hb⟩;refine Hid.out ?_))
  have hb2:Below w.heap.size w w2:=(qab _ _).trans (hb.mono (by simp))
  have HB2:=hZ hb2
  clear hb hb2 HW
  refine hZ ?_
  go_wp2_with (first|(go_at_call 290;refine(qax _).mono ?_;rintro e w3 ⟨rfl,o,rfl⟩))
  exact⟨rfl,HQ.out _ (HB2.out.trans ((qab _ _).mono HB2.out.size))⟩
theorem qdo (xb _mb:Nat) (xk xn:Int) (xtr:Bool) (xtx:ByteArray) (xm:Int) (xa:Option Addr) (n xcap:Nat) (w:World) (Q:Ending→World→Prop) (hn:n+1≤1000000) (hl:n+1<2)
  (hW:∀w',Lk (w.alloc (.cells (Dl.cells ⟨xk,xn,xtr,xtx,xm,xa,n+1,xcap⟩) 134)) w'→Calls prog 232 #[bp xb,.agg (Dl.cells ⟨xk,xn,xtr,xtx,xm,xa,n+1,xcap⟩)] w' fun e w2=>e=.returned (.string ⟨#[98,101,103,105,110]⟩)∧Below w'.heap.size w' w2)
  (hQ:∀w',Below w.heap.size w w'→Q (.panicked (stopP (stopV 4))) w'):
  Calls prog 297 #[bp xb,.agg (Dl.cells ⟨xk,xn,xtr,xtx,xm,xa,n+1,xcap⟩)] w Q:=by
 obtain rfl:n=0:=by omega
 have HQ:=hZ hQ
 have HW:=hZ hW
 clear hW hQ
 go_enter func297,ntmps297
 go_wp2_with (first|(go_at_call 290;refine(qam _).mono ?_;rintro e w2 ⟨rfl,hww⟩;obtain rfl:=hww.symm)|(go_at_call 232;refine(HW.out _ (by exact⟨rfl,rfl,rfl,rfl⟩)).mono ?_;rintro e w2 ⟨rfl,hb⟩;refine Hid.out ?_))
 have hb2:Below w.heap.size w w2:=(qab _ _).trans (hb.mono (by simp))
 have HB2:=hZ hb2
 clear hb hb2 HW
 refine hZ ?_
 go_wp2_with (first|(go_at_call 290;refine(qax _).mono ?_;rintro e w3 ⟨rfl,o,rfl⟩))
 exact⟨rfl,HQ.out _ (HB2.out.trans ((qab _ _).mono HB2.out.size))⟩
theorem qfa (xb _mb:Nat) (xk xn:Int) (xtr:Bool) (xtx:ByteArray) (xm:Int) (xa:Option Addr) (n xcap:Nat) (w:World) (Q:Ending→World→Prop) (hn:n+1≤1000000)
  (hW:∀w',Lk (w.alloc (.cells (Dl.cells ⟨xk,xn,xtr,xtx,xm,xa,n+1,xcap⟩) 134)) w'→Calls prog 232 #[bp xb,.agg (Dl.cells ⟨xk,xn,xtr,xtx,xm,xa,n+1,xcap⟩)] w' fun e w2=>e=.returned (.string ⟨#[100,101,102,105,110,101]⟩)∧Below w'.heap.size w' w2)
  (hQ:∀w',Below w.heap.size w w'→Q (.panicked (stopP (stopV 4))) w'):
  Calls prog 297 #[bp xb,.agg (Dl.cells ⟨xk,xn,xtr,xtx,xm,xa,n+1,xcap⟩)] w Q:=by
 have HQ:=hZ hQ
 clear hQ
 have HW:=hZ hW
 clear hW
 have hpos:(0:Int)<(n:Int)+1:=by omega
 go_enter func297,ntmps297
 go_wp2_with (first|(go_at_call 290;refine(qam _).mono ?_;rintro e w2 ⟨rfl,hww⟩;obtain rfl:=hww.symm)|(go_at_call 232;refine(HW.out _ (by exact⟨rfl,rfl,rfl,rfl⟩)).mono ?_;rintro e w2 ⟨rfl,hb⟩;refine Hid.out ?_))
 have hb2:Below w.heap.size w w2:=(qab _ _).trans (hb.mono (by simp))
 have HB2:=hZ hb2
 clear hb hb2 HW
 refine hZ ?_
 go_wp2_with (first|(go_at_call 131;refine(qc6 4 _).mono ?_;rintro e w3 ⟨rfl,o,rfl⟩))
 exact⟨rfl,HQ.out _ (HB2.out.trans ((qab _ _).mono HB2.out.size))⟩
theorem qe8 (xb _mb:Nat) (xk xn:Int) (xtr:Bool) (xtx:ByteArray) (xm:Int) (xa:Option Addr) (n xcap:Nat) (w:World) (Q:Ending→World→Prop) (hn:n+1≤1000000)
  (hW:∀w',Lk (w.alloc (.cells (Dl.cells ⟨xk,xn,xtr,xtx,xm,xa,n+1,xcap⟩) 134)) w'→Calls prog 232 #[bp xb,.agg (Dl.cells ⟨xk,xn,xtr,xtx,xm,xa,n+1,xcap⟩)] w' fun e w2=>e=.returned (.string ⟨#[100,101,102,105,110,101,45,115,121,110,116,97,120]⟩)∧Below w'.heap.size w' w2)
  (hQ:∀w',Below w.heap.size w w'→Q (.panicked (stopP (stopV 4))) w'):
  Calls prog 297 #[bp xb,.agg (Dl.cells ⟨xk,xn,xtr,xtx,xm,xa,n+1,xcap⟩)] w Q:=by
 have HQ:=hZ hQ
 clear hQ
 have HW:=hZ hW
 clear hW
 have hpos:(0:Int)<(n:Int)+1:=by omega
 go_enter func297,ntmps297
 go_wp2_with (first|(go_at_call 290;refine(qam _).mono ?_;rintro e w2 ⟨rfl,hww⟩;obtain rfl:=hww.symm)|(go_at_call 232;refine(HW.out _ (by exact⟨rfl,rfl,rfl,rfl⟩)).mono ?_;rintro e w2 ⟨rfl,hb⟩;refine Hid.out ?_))
 have hb2:Below w.heap.size w w2:=(qab _ _).trans (hb.mono (by simp))
 have HB2:=hZ hb2
 clear hb hb2 HW
 refine hZ ?_
 go_wp2_with (first|(go_at_call 131;refine(qc6 4 _).mono ?_;rintro e w3 ⟨rfl,o,rfl⟩))
 exact⟨rfl,HQ.out _ (HB2.out.trans ((qab _ _).mono HB2.out.size))⟩
theorem qja (xb:Nat) (xk xn:Int) (xtr:Bool) (xtx:ByteArray) (xm:Int) (xa:Option Addr) (xcap:Nat) (w:World) (Q:Ending→World→Prop)
  (hQ:∀w',Below w.heap.size w w'→Q (.panicked (stopP (stopV 4))) w'):
  Calls prog 297 #[bp xb,.agg (Dl.cells ⟨xk,xn,xtr,xtx,xm,xa,0,xcap⟩)] w Q:=by
 have HQ:=hZ hQ
 clear hQ
 go_enter func297,ntmps297
 go_wp2_with (first|(go_at_call 290;refine(qax _).mono ?_;rintro e w3 ⟨rfl,o,rfl⟩))
 exact⟨rfl,HQ.out _ (((qab _ _).alloc (by simp) _))⟩
theorem qge (xb mb:Nat) (xk xn:Int) (xtr:Bool) (xtx:ByteArray) (xm:Int) (g o:Nat) (xcap:Nat) (w:World) (Q:Ending→World→Prop) (yk yn:Int) (ytr:Bool) (ytx:ByteArray) (ym:Int) (ya:Option Addr) (ylen ycap:Nat) (c0:w.cell? ⟨xb,0,none⟩=some (bp mb)) (c1:w.cell? ⟨g,o+6,none⟩=some (.int .i64 yk)) (c2:w.cell? ⟨g,o+6+1,none⟩=some (.int .i64 yn)) (c3:w.cell? ⟨g,o+6+2,none⟩=some (.bool ytr)) (c4:w.cell? ⟨g,o+6+3,none⟩=some (.string ytx)) (c5:w.cell? ⟨g,o+6+4,none⟩=some (.int .i64 ym)) (c6:w.cell? ⟨g,o+6+5,none⟩=some (.slice ya ylen ycap))
  (hW:∀w',Lk (w.alloc (.cells (Dl.cells ⟨xk,xn,xtr,xtx,xm,some ⟨g,o,none⟩,2,xcap⟩) 134)) w'→Calls prog 232 #[bp xb,.agg (Dl.cells ⟨xk,xn,xtr,xtx,xm,some ⟨g,o,none⟩,2,xcap⟩)] w' fun e w2=>e=.returned (.string ⟨#[113,117,111,116,101]⟩)∧Below w'.heap.size w' w2)
  (hE:∀w',Below w.heap.size w w'→Calls prog 298 #[bp mb,.agg (Dl.cells ⟨yk,yn,ytr,ytx,ym,ya,ylen,ycap⟩)] w' (RQ Q)):
  Calls prog 297 #[bp xb,.agg (Dl.cells ⟨xk,xn,xtr,xtx,xm,some ⟨g,o,none⟩,2,xcap⟩)] w Q:=by
 have HE:=hZ hE
 clear hE
 have l0:=qac c0
 have HW:=hZ hW
 clear hW
 go_enter func297,ntmps297
 go_wp2_with (first|(go_at_call 290;refine(qam _).mono ?_;rintro e w2 ⟨rfl,hww⟩;obtain rfl:=hww.symm)|(go_at_call 232;refine(HW.out _ (by exact⟨rfl,rfl,rfl,rfl⟩)).mono ?_;rintro e w2 ⟨rfl,hb⟩;refine Hid.out ?_))
 have hb2:Below w.heap.size w w2:=(qab _ _).trans (hb.mono (by simp))
 have d0:=(hb2.cell (p:=⟨xb,0,none⟩) l0).trans c0
 have d1:=(hb2.cell (p:=⟨g,_,none⟩) (qac c1)).trans c1
 have d2:=(hb2.cell (p:=⟨g,_,none⟩) (qac c2)).trans c2
 have d3:=(hb2.cell (p:=⟨g,_,none⟩) (qac c3)).trans c3
 have d4:=(hb2.cell (p:=⟨g,_,none⟩) (qac c4)).trans c4
 have d5:=(hb2.cell (p:=⟨g,_,none⟩) (qac c5)).trans c5
 have d6:=(hb2.cell (p:=⟨g,_,none⟩) (qac c6)).trans c6
 have HB2:=hZ hb2
 clear hb hb2 HW c0 c1 c2 c3 c4 c5 c6
 refine hZ ?_
 go_wp2_with (first|(go_at_call 290;refine(qam _).mono ?_;rintro e w2 ⟨rfl,hww⟩;obtain rfl:=hww.symm))
 refine qai 7 (by kernel_rfl) (by kernel_rfl) ?_
 simp only [List.take_succ_cons,List.take_zero,List.drop_succ_cons,List.drop_zero]
 repeat still_step
 refine wpStill_nil ?_
 go_wp2_with (first|(go_at_call 298;refine(HE.out _ (HB2.out.trans ((bl0 (by exact⟨rfl,rfl,rfl,rfl⟩)).mono HB2.out.size))).mono ?_;rintro e w3 (⟨ps,rfl,hq⟩|⟨v,rfl,hq⟩);(exact⟨rfl,hq⟩);have HQ:=hZ hq;clear hq))
 exact HQ.out
theorem qe9 (xb _mb:Nat) (xk xn:Int) (xtr:Bool) (xtx:ByteArray) (xm:Int) (g o:Nat) (n xcap:Nat) (w:World) (Q:Ending→World→Prop) (yk yn:Int) (ytr:Bool) (ytx:ByteArray) (ym:Int) (ya:Option Addr) (ylen ycap:Nat) (c1:w.cell? ⟨g,o+6,none⟩=some (.int .i64 yk)) (c2:w.cell? ⟨g,o+6+1,none⟩=some (.int .i64 yn)) (c3:w.cell? ⟨g,o+6+2,none⟩=some (.bool ytr)) (c4:w.cell? ⟨g,o+6+3,none⟩=some (.string ytx)) (c5:w.cell? ⟨g,o+6+4,none⟩=some (.int .i64 ym)) (c6:w.cell? ⟨g,o+6+5,none⟩=some (.slice ya ylen ycap)) (hn:n+3≤1000000) (hcp:n+3≤xcap)
  (hW:∀w',Lk (w.alloc (.cells (Dl.cells ⟨xk,xn,xtr,xtx,xm,some ⟨g,o,none⟩,n+3,xcap⟩) 134)) w'→Calls prog 232 #[bp xb,.agg (Dl.cells ⟨xk,xn,xtr,xtx,xm,some ⟨g,o,none⟩,n+3,xcap⟩)] w' fun e w2=>e=.returned (.string ⟨#[108,97,109,98,100,97]⟩)∧Below w'.heap.size w' w2)
  (hE:∀w',Below w.heap.size w w'→Calls prog 293 #[bp xb,.agg (Dl.cells ⟨yk,yn,ytr,ytx,ym,ya,ylen,ycap⟩),.slice (tlD g o xcap 2) (n+1) (xcap-2)] w' (RQ Q)):
  Calls prog 297 #[bp xb,.agg (Dl.cells ⟨xk,xn,xtr,xtx,xm,some ⟨g,o,none⟩,n+3,xcap⟩)] w Q:=by
 have hsl:∀w,(Instr.slice 132 (.slice (some ⟨g,o,none⟩) (n+3) xcap) (some (.int .i64 2)) none none).run prog w=.ok (.slice (tlD g o xcap 2) (n+1) (xcap-2)) w:=fun w=>qdg g o (n+1) xcap hcp w
 have HE:=hZ hE
 clear hE
 have HW:=hZ hW
 clear hW
 have hpos:(0:Int)<(n:Int)+3:=by omega
 have hge:(3:Int)≤(n:Int)+3:=by omega
 have hlt:(1:Int)<(n:Int)+3:=by omega
 go_enter func297,ntmps297
 go_wp2_with (first|(go_at_call 290;refine(qam _).mono ?_;rintro e w2 ⟨rfl,hww⟩;obtain rfl:=hww.symm)|(go_at_call 232;refine(HW.out _ (by exact⟨rfl,rfl,rfl,rfl⟩)).mono ?_;rintro e w2 ⟨rfl,hb⟩;refine Hid.out ?_))
 have hb2:Below w.heap.size w w2:=(qab _ _).trans (hb.mono (by simp))
 have d1:=(hb2.cell (p:=⟨g,_,none⟩) (qac c1)).trans c1
 have d2:=(hb2.cell (p:=⟨g,_,none⟩) (qac c2)).trans c2
 have d3:=(hb2.cell (p:=⟨g,_,none⟩) (qac c3)).trans c3
 have d4:=(hb2.cell (p:=⟨g,_,none⟩) (qac c4)).trans c4
 have d5:=(hb2.cell (p:=⟨g,_,none⟩) (qac c5)).trans c5
 have d6:=(hb2.cell (p:=⟨g,_,none⟩) (qac c6)).trans c6
 have HB2:=hZ hb2
 clear hb hb2 HW c1 c2 c3 c4 c5 c6
 refine hZ ?_
 go_wp2_with (first|(go_at_call 290;refine(qam _).mono ?_;rintro e w2 ⟨rfl,hww⟩;obtain rfl:=hww.symm))
 refine qai 6 (by kernel_rfl) (by kernel_rfl) ?_
 simp only [List.take_succ_cons,List.take_zero,List.drop_succ_cons,List.drop_zero]
 repeat still_step
 refine wpStill_nil ?_
 go_wp2_with (first|(go_at_call 293;refine(HE.out _ (HB2.out.trans ((bl0 (by exact⟨rfl,rfl,rfl,rfl⟩)).mono HB2.out.size))).mono ?_;rintro e w3 (⟨ps,rfl,hq⟩|⟨v,rfl,hq⟩);(exact⟨rfl,hq⟩);have HQ:=hZ hq;clear hq))
 exact HQ.out
theorem qgf (xb mb:Nat) (xk xn:Int) (xtr:Bool) (xtx:ByteArray) (xm:Int) (g o:Nat) (n xcap:Nat) (w:World) (Q:Ending→World→Prop) (c0:w.cell? ⟨xb,0,none⟩=some (bp mb)) (hn:n+2≤1000000) (hcp:n+2≤xcap)
  (hW:∀w',Lk (w.alloc (.cells (Dl.cells ⟨xk,xn,xtr,xtx,xm,some ⟨g,o,none⟩,n+2,xcap⟩) 134)) w'→Calls prog 232 #[bp xb,.agg (Dl.cells ⟨xk,xn,xtr,xtx,xm,some ⟨g,o,none⟩,n+2,xcap⟩)] w' fun e w2=>e=.returned (.string ⟨#[98,101,103,105,110]⟩)∧Below w'.heap.size w' w2)
  (hE:∀w',Below w.heap.size w w'→Calls prog 334 #[bp xb,.slice (tlD g o xcap 1) (n+1) (xcap-1)] w' (RetP (fun v w2=>∃a l c,v=.slice a l c∧w2.cell? ⟨xb,0,none⟩=some (bp mb)∧∀w3,Lk w2 w3→Calls prog 338 #[bp mb,.slice a l c] w3 (RX xb mb Q)) Q)):
  Calls prog 297 #[bp xb,.agg (Dl.cells ⟨xk,xn,xtr,xtx,xm,some ⟨g,o,none⟩,n+2,xcap⟩)] w Q:=by
 have hsl:∀w,(Instr.slice 132 (.slice (some ⟨g,o,none⟩) (n+2) xcap) (some (.int .i64 1)) none none).run prog w=.ok (.slice (tlD g o xcap 1) (n+1) (xcap-1)) w:=fun w=>qdh g o (n+1) xcap hcp w
 have HE:=hZ hE
 have l0:=qac c0
 clear hE
 have HW:=hZ hW
 clear hW
 have hpos:(0:Int)<(n:Int)+2:=by omega
 have hge:(2:Int)≤(n:Int)+2:=by omega
 go_enter func297,ntmps297
 go_wp2_with (first|(go_at_call 290;refine(qam _).mono ?_;rintro e w2 ⟨rfl,hww⟩;obtain rfl:=hww.symm)|(go_at_call 232;refine(HW.out _ (by exact⟨rfl,rfl,rfl,rfl⟩)).mono ?_;rintro e w2 ⟨rfl,hb⟩;refine Hid.out ?_))
 have hb2:Below w.heap.size w w2:=(qab _ _).trans (hb.mono (by simp))
 have d0:=(hb2.cell (p:=⟨xb,0,none⟩) l0).trans c0
 have HB2:=hZ hb2
 clear hb hb2 HW
 refine hZ ?_
 go_wp2_with (first|(go_at_call 290;refine(qam _).mono ?_;rintro e w2 ⟨rfl,hww⟩;obtain rfl:=hww.symm))
 go_region_held2 (fun w'=>w'.cell? ⟨xb,0,none⟩=some (bp mb)) (first|(exact d0)|(exact HS1.out)|(exact HS2.out)|go_keep)
  (first
   |(go_at_call 334;refine(HE.out _ (HB2.out.trans ((bl0 (by exact⟨rfl,rfl,rfl,rfl⟩)).mono HB2.out.size))).mono ?_;rintro e w3 (⟨ps,rfl,hq⟩|⟨v,rfl,a,l,c,rfl,hc,hk⟩);(exact⟨rfl,hq⟩);have HS1:=hZ hc;have HK:=hZ hk;clear hc hk)
   |(go_at_call 338;refine(HK.out _ (by exact⟨rfl,rfl,rfl,rfl⟩)).mono ?_;rintro e w4 (⟨ps,rfl,hq⟩|⟨v,rfl,hc,hq⟩);(exact⟨rfl,hq⟩);have HS2:=hZ hc;have HQ:=hZ hq;clear hc hq))
 all_goals go_wp2
 all_goals exact HQ.out
end
section
open Sc
theorem qf7 {w:World} {lo e:Nat} {v:Value} {n:Nat} {xs:List Value} {g l c:Nat} (h:w.ownsRow lo e 1 v n xs) (hv:v=.slice (some ⟨g,0,none⟩) l c) {i:Nat} {x:Value} (hx:xs[i]? =some x):w.cell? ⟨g,i,none⟩=some x:=by
 rcases h.2 with⟨h1,h2⟩|⟨g',cap,cur,h1,hb,hg,hn,hm,hsz,htk⟩
 ·rw [h1]at hv;cases hv
 ·rw [h1]at hv;cases hv
  rw [←htk,List.getElem?_take]at hx
  split at hx
  ·simp only [World.cell?,hg];simpa using hx
  ·cases hx
theorem qju (xb mb g o n xcap:Nat) (w:World) (Q:Ending→World→Prop) (c0:w.cell? ⟨xb,0,none⟩=some (bp mb)) (hn:n=2∨n=3) (hcp:n+1≤xcap)
  (hE:∀w',Below w.heap.size w w'→Calls prog 334 #[bp xb,.slice (tlD g o xcap 1) n (xcap-1)] w' (RetP (fun v w2=>∃a c lo k0 k1 k2 c0 c1 c2 xs,v=.slice a n c∧w2.ownsRow lo 241 1 (.slice a n c) n xs∧lo≤w2.heap.size∧(xs++[.func (.func 235) #[] #[]])[0]? =some (.func (.func k0) #[] c0)∧(xs++[.func (.func 235) #[] #[]])[1]? =some (.func (.func k1) #[] c1)∧(xs++[.func (.func 235) #[] #[]])[2]? =some (.func (.func k2) #[] c2)∧
   ∀w3,w2.grownBy w3 (Value.slice a n c).ownBlock→w3.cell? ⟨xb,0,none⟩=some (bp mb)∧∀w4,Lk w3 w4→Calls prog 373 #[bp mb,.func (.func k0) #[] c0,.func (.func k1) #[] c1,.func (.func k2) #[] c2] w4 (RQ Q)) Q)):
  Calls prog 335 #[bp xb,.slice (some ⟨g,o,none⟩) (n+1) xcap] w Q:=by
 obtain⟨i0,hi,hz0',hz1',hz2'⟩:=info_parts qjk
 have hsl:∀w,(Instr.slice 132 (.slice (some ⟨g,o,none⟩) (n+1) xcap) (some (.int .i64 1)) none none).run prog w=.ok (.slice (tlD g o xcap 1) n (xcap-1)) w:=fun w=>qdh g o n xcap hcp w
 have HE:=hZ hE
 have l0:=qac c0
 clear hE
 have hnn:n≤3:=by omega
 have hor:((n:Int)+1==3)=true∨(((n:Int)+1==3)=false∧((n:Int)+1==4)=true):=by
  rcases hn with rfl|rfl
  ·left;rfl
  ·right;exact⟨rfl,rfl⟩
 clear hn
 rcases hor with h3|⟨h3,h4⟩
 all_goals
  go_enter func335,ntmps335
  go_wp2_with (first|(go_at_call 290;refine(qam _).mono ?_;rintro e w2 ⟨rfl,hww⟩;obtain rfl:=hww.symm)|(go_at_call 334;refine(HE.out _ (by first|exact Below.refl _ _|exact bl0 (by exact⟨rfl,rfl,rfl,rfl⟩))).mono ?_;rintro e w2 (⟨ps,rfl,hq⟩|⟨v,rfl,a,c,lo,k0,k1,k2,d0,d1,d2,xs,rfl,hown,hlo,hx0,hx1,hx2,hK⟩);(exact⟨rfl,hq⟩);refine Hid.out ?_))
  have HOwn:Hid (w2.ownsRow lo 241 1 (.slice a n c) n xs):=hown
  have HX:=hZ (And.intro hx0 (And.intro hx1 hx2))
  have HK:=hZ hK
  clear hown hx0 hx1 hx2 hK
  refine hZ ?_
  go_wp2_with (at_builtin;refine wpList_append_lies _ rfl _ _ 426 rfl lo 241 i0 .nilFunc 1 8 underlying426 hi hz0' hz1' hz2' rfl (by decide) _ _ _ rfl (HOwn.out.alloc _) ⟨w2.heap.size,0,none⟩ 1 1 [.func (.func 235) #[] #[]] rfl rfl ?c1 ?c2 (by decide) ?c3 ?c4 ?c5 (w2.heap.size+1) ?c6 ?_)
  case c1=>exact World.news_of_block (cs:=#[.func (.func 235) #[] #[]]) (by have:=heap_alloc_new w2 (.cells #[.func (.func 235) #[] #[]] 241);simpa using this)
  case c2=>intro u hu;simp at hu;rcases hu with rfl;rfl
  case c3=>unfold maxLen;omega
  case c4=>omega
  case c5=>simp;omega
  case c6=>simp
  intro g3 cap3 w3 hown3 hgrow3 hat3 hlt3
  refine Hid.out ?_
  obtain⟨hx0,hx1,hx2⟩:=HX.out
  have p0:=qf7 hown3 rfl hx0
  have p1:=qf7 hown3 rfl hx1
  have p2:=qf7 hown3 rfl hx2
  obtain⟨cx,hk3⟩:=HK.out w3 (qbf hgrow3)
  have HK3:=hZ hk3
  clear hk3 hown3 hgrow3 hat3 hlt3 hx0 hx1 hx2 HK HOwn HX HE
  have hq0:(0:Int)<(n:Int)+1:=by omega
  have hq1:(1:Int)<(n:Int)+1:=by first|omega|(simp at h3;omega)|(simp at h4;omega)
  have hq2:(2:Int)<(n:Int)+1:=by first|omega|(simp at h3;omega)|(simp at h4;omega)
  refine hZ ?_
  go_wp2_with (fail)
  refine qai 13 (by kernel_rfl) (by kernel_rfl) ?_
  simp only [List.take_succ_cons,List.take_zero,List.drop_succ_cons,List.drop_zero]
  repeat still_step
  refine wpStill_nil ?_
  go_wp2_with (first|(go_at_call 373;refine(HK3.out _ (by exact⟨rfl,rfl,rfl,rfl⟩)).mono ?_;rintro e w4 (⟨ps,rfl,hq⟩|⟨v,rfl,hq⟩);(exact⟨rfl,hq⟩);have HQ:=hZ hq;clear hq))
  exact HQ.out
end
end Go.Proofs.YtldaocpojcfljaaGreatDoor
