import Derived.Test.YtldaocpojcfljaaGreatDoorD14
set_option maxRecDepth 100000
set_option maxHeartbeats 4000000
namespace Go.Proofs.YtldaocpojcfljaaGreatDoor
open Tryz hiding parts
open Go.RowKit Go.Shelf
section
open Sc
def RX(xb mb:Nat)(Q:Ending->World->Prop):Ending->World->Prop:=RetP (fun v w=>w.cell? ⟨xb,0,none⟩=some (bp mb)/\Q (.returned v) w) Q
def tlD(g o cap k:Nat):Option Addr:=if cap=k then some ⟨g,o,none⟩else some ⟨g,o+k*6,none⟩
theorem qdh(g o n cap:Nat)(hc:n+1<=cap)(w:World):(Instr.slice 132 (.slice (some ⟨g,o,none⟩) (n+1) cap) (some (.int .i64 1)) none none).run prog w=.ok (.slice (tlD g o cap 1) n (cap-1)) w:=by
 have h1:1<=cap:=by omega
 simp[Instr.slice,Instr.sliceBounds,run_underlying underlying132,go_sem,tlD];omega
theorem qdg(g o n cap:Nat)(hc:n+2<=cap)(w:World):(Instr.slice 132 (.slice (some ⟨g,o,none⟩) (n+2) cap) (some (.int .i64 2)) none none).run prog w=.ok (.slice (tlD g o cap 2) n (cap-2)) w:=by
 have h1:1<=cap:=by omega
 have h2:2<=cap:=by omega
 simp[Instr.slice,Instr.sliceBounds,run_underlying underlying132,go_sem,tlD];omega
theorem qjd(xb mb:Nat)(xk xn:Int)(xtr:Bool)(xtx:ByteArray)(xm:Int)(xa:Option Addr)(n xcap:Nat)(w:World)(Q:Ending->World->Prop)(c0:w.cell? ⟨xb,0,none⟩=some (bp mb))(hn:n+1<=1000000)
  (hW:∀w',Lk (w.alloc (.cells (Dl.cells ⟨xk,xn,xtr,xtx,xm,xa,n+1,xcap⟩) 134)) w'->Calls prog 232 #[bp xb,.agg (Dl.cells ⟨xk,xn,xtr,xtx,xm,xa,n+1,xcap⟩)] w' fun e w2=>e=.returned (.string ⟨#[]⟩)/\Below w'.heap.size w' w2)
  (hE:∀w',Below w.heap.size w w'->Calls prog 334 #[bp xb,.slice xa (n+1) xcap] w' (RetP (fun v w2=>∃a l c,v=.slice a l c/\w2.cell? ⟨xb,0,none⟩=some (bp mb)/\∀w3,Lk w2 w3->Calls prog 333 #[bp mb,.slice a l c] w3 (RX xb mb Q)) Q)):
  Calls prog 297 #[bp xb,.agg (Dl.cells ⟨xk,xn,xtr,xtx,xm,xa,n+1,xcap⟩)] w Q:=by
 have l0:=qac c0;have HW:=hZ hW;have HE:=hZ hE;clear hW hE;have hpos:(0:Int)<(n:Int)+1:=by omega
 go_enter func297,ntmps297
 go_wp2_with (first|(go_at_call 290;refine(qam _).mono ?_;rintro e w2 ⟨rfl,hww⟩;obtain rfl:=hww.symm)|(go_at_call 232;refine(HW.out _ (by exact⟨rfl,rfl,rfl,rfl⟩)).mono ?_;rintro e w2 ⟨rfl,hb⟩;refine Hid.out ?_))
 have hb2:Below w.heap.size w w2:=(qab _ _).trans (hb.mono (by simp));have d0:=(hb2.cell (p:=⟨xb,0,none⟩) l0).trans c0;have HB2:=hZ hb2;clear hb hb2 HW;refine hZ ?_;go_wp2_with (fail)
 go_region_held2 (fun w'=>w'.cell? ⟨xb,0,none⟩=some (bp mb)) (first|(exact d0)|(exact HS1.out)|(exact HS2.out)|go_keep)
  (first
   |(go_at_call 334;refine(HE.out _ (HB2.out.trans ((bl0 (by exact⟨rfl,rfl,rfl,rfl⟩)).mono HB2.out.size))).mono ?_;rintro e w3 (⟨ps,rfl,hq⟩|⟨v,rfl,a,l,c,rfl,hc,hk⟩);(exact⟨rfl,hq⟩);have HS1:=hZ hc;have HK:=hZ hk;clear hc hk)
   |(go_at_call 333;refine(HK.out _ (by exact⟨rfl,rfl,rfl,rfl⟩)).mono ?_;rintro e w4 (⟨ps,rfl,hq⟩|⟨v,rfl,hc,hq⟩);(exact⟨rfl,hq⟩);have HS2:=hZ hc;have HQ:=hZ hq;clear hc hq))
 all_goals go_wp2
 all_goals exact HQ.out
end
section
open Sc
theorem qjc(xb _mb:Nat)(xk xn:Int)(xtr:Bool)(xtx:ByteArray)(xm:Int)(xa:Option Addr)(n xcap:Nat)(w:World)(Q:Ending->World->Prop)(hn:n+1<=1000000)
  (hW:∀w',Lk (w.alloc (.cells (Dl.cells ⟨xk,xn,xtr,xtx,xm,xa,n+1,xcap⟩) 134)) w'->Calls prog 232 #[bp xb,.agg (Dl.cells ⟨xk,xn,xtr,xtx,xm,xa,n+1,xcap⟩)] w' fun e w2=>e=.returned (.string ⟨#[105,102]⟩)/\Below w'.heap.size w' w2)
  (hE:∀w',Below w.heap.size w w'->Calls prog 335 #[bp xb,.slice xa (n+1) xcap] w' (RQ Q)):
  Calls prog 297 #[bp xb,.agg (Dl.cells ⟨xk,xn,xtr,xtx,xm,xa,n+1,xcap⟩)] w Q:=by
 have HE:=hZ hE;clear hE;have HW:=hZ hW;clear hW;have hpos:(0:Int)<(n:Int)+1:=by omega
 go_enter func297,ntmps297
 go_wp2_with (first|(go_at_call 290;refine(qam _).mono ?_;rintro e w2 ⟨rfl,hww⟩;obtain rfl:=hww.symm)|(go_at_call 232;refine(HW.out _ (by exact⟨rfl,rfl,rfl,rfl⟩)).mono ?_;rintro e w2 ⟨rfl,hb⟩;refine Hid.out ?_))
 have hb2:Below w.heap.size w w2:=(qab _ _).trans (hb.mono (by simp));have HB2:=hZ hb2;clear hb hb2 HW;refine hZ ?_;go_wp2_with (first|(go_at_call 335;refine(HE.out _ (by first|(exact HB2.out)|(exact HB2.out.trans ((bl0 (by exact⟨rfl,rfl,rfl,rfl⟩)).mono HB2.out.size)))).mono ?_;rintro e w3 (⟨ps,rfl,hq⟩|⟨v,rfl,hq⟩);(exact⟨rfl,hq⟩);have HQ:=hZ hq;clear hq))
 exact HQ.out
theorem qi9(xb _mb:Nat)(xk xn:Int)(xtr:Bool)(xtx:ByteArray)(xm:Int)(xa:Option Addr)(n xcap:Nat)(w:World)(Q:Ending->World->Prop)(hn:n+1<=1000000)
  (hW:∀w',Lk (w.alloc (.cells (Dl.cells ⟨xk,xn,xtr,xtx,xm,xa,n+1,xcap⟩) 134)) w'->Calls prog 232 #[bp xb,.agg (Dl.cells ⟨xk,xn,xtr,xtx,xm,xa,n+1,xcap⟩)] w' fun e w2=>e=.returned (.string ⟨#[115,101,116,33]⟩)/\Below w'.heap.size w' w2)
  (hE:∀w',Below w.heap.size w w'->Calls prog 336 #[bp xb,.slice xa (n+1) xcap] w' (RQ Q)):
  Calls prog 297 #[bp xb,.agg (Dl.cells ⟨xk,xn,xtr,xtx,xm,xa,n+1,xcap⟩)] w Q:=by
 have HE:=hZ hE;clear hE;have HW:=hZ hW;clear hW;have hpos:(0:Int)<(n:Int)+1:=by omega
 go_enter func297,ntmps297
 go_wp2_with (first|(go_at_call 290;refine(qam _).mono ?_;rintro e w2 ⟨rfl,hww⟩;obtain rfl:=hww.symm)|(go_at_call 232;refine(HW.out _ (by exact⟨rfl,rfl,rfl,rfl⟩)).mono ?_;rintro e w2 ⟨rfl,hb⟩;refine Hid.out ?_))
 have hb2:Below w.heap.size w w2:=(qab _ _).trans (hb.mono (by simp));have HB2:=hZ hb2;clear hb hb2 HW;refine hZ ?_;go_wp2_with (first|(go_at_call 336;refine(HE.out _ (by first|(exact HB2.out)|(exact HB2.out.trans ((bl0 (by exact⟨rfl,rfl,rfl,rfl⟩)).mono HB2.out.size)))).mono ?_;rintro e w3 (⟨ps,rfl,hq⟩|⟨v,rfl,hq⟩);(exact⟨rfl,hq⟩);have HQ:=hZ hq;clear hq))
 exact HQ.out
theorem qjb(xb _mb:Nat)(xk xn:Int)(xtr:Bool)(xtx:ByteArray)(xm:Int)(xa:Option Addr)(n xcap:Nat)(w:World)(Q:Ending->World->Prop)(hn:n+1<=1000000)
  (hW:∀w',Lk (w.alloc (.cells (Dl.cells ⟨xk,xn,xtr,xtx,xm,xa,n+1,xcap⟩) 134)) w'->Calls prog 232 #[bp xb,.agg (Dl.cells ⟨xk,xn,xtr,xtx,xm,xa,n+1,xcap⟩)] w' fun e w2=>e=.returned (.string ⟨#[108,101,116]⟩)/\Below w'.heap.size w' w2)
  (hE:∀w',Below w.heap.size w w'->Calls prog 337 #[bp xb,.slice xa (n+1) xcap] w' (RQ Q)):
  Calls prog 297 #[bp xb,.agg (Dl.cells ⟨xk,xn,xtr,xtx,xm,xa,n+1,xcap⟩)] w Q:=by
 have HE:=hZ hE;clear hE;have HW:=hZ hW;clear hW;have hpos:(0:Int)<(n:Int)+1:=by omega
 go_enter func297,ntmps297
 go_wp2_with (first|(go_at_call 290;refine(qam _).mono ?_;rintro e w2 ⟨rfl,hww⟩;obtain rfl:=hww.symm)|(go_at_call 232;refine(HW.out _ (by exact⟨rfl,rfl,rfl,rfl⟩)).mono ?_;rintro e w2 ⟨rfl,hb⟩;refine Hid.out ?_))
 have hb2:Below w.heap.size w w2:=(qab _ _).trans (hb.mono (by simp));have HB2:=hZ hb2;clear hb hb2 HW;refine hZ ?_;go_wp2_with (first|(go_at_call 337;refine(HE.out _ (by first|(exact HB2.out)|(exact HB2.out.trans ((bl0 (by exact⟨rfl,rfl,rfl,rfl⟩)).mono HB2.out.size)))).mono ?_;rintro e w3 (⟨ps,rfl,hq⟩|⟨v,rfl,hq⟩);(exact⟨rfl,hq⟩);have HQ:=hZ hq;clear hq))
 exact HQ.out
theorem qdn(xb _mb:Nat)(xk xn:Int)(xtr:Bool)(xtx:ByteArray)(xm:Int)(xa:Option Addr)(n xcap:Nat)(w:World)(Q:Ending->World->Prop)(hn:n+1<=1000000)(hl:n+1≠2)
  (hW:∀w',Lk (w.alloc (.cells (Dl.cells ⟨xk,xn,xtr,xtx,xm,xa,n+1,xcap⟩) 134)) w'->Calls prog 232 #[bp xb,.agg (Dl.cells ⟨xk,xn,xtr,xtx,xm,xa,n+1,xcap⟩)] w' fun e w2=>e=.returned (.string ⟨#[113,117,111,116,101]⟩)/\Below w'.heap.size w' w2)
  (hQ:∀w',Below w.heap.size w w'->Q (.panicked (stopP (stopV 4))) w'):
  Calls prog 297 #[bp xb,.agg (Dl.cells ⟨xk,xn,xtr,xtx,xm,xa,n+1,xcap⟩)] w Q:=by
 have HQ:=hZ hQ;clear hQ;have HW:=hZ hW;clear hW;have hpos:(0:Int)<(n:Int)+1:=by omega
 have hf:((n:Int)+1==2)=false:=by simp;omega
 go_enter func297,ntmps297
 go_wp2_with (first|(go_at_call 290;refine(qam _).mono ?_;rintro e w2 ⟨rfl,hww⟩;obtain rfl:=hww.symm)|(go_at_call 232;refine(HW.out _ (by exact⟨rfl,rfl,rfl,rfl⟩)).mono ?_;rintro e w2 ⟨rfl,hb⟩;refine Hid.out ?_))
 have hb2:Below w.heap.size w w2:=(qab _ _).trans (hb.mono (by simp));have HB2:=hZ hb2;clear hb hb2 HW;refine hZ ?_;go_wp2_with (first|(go_at_call 290;refine(qax _).mono ?_;rintro e w3 ⟨rfl,o,rfl⟩))
 exact⟨rfl,HQ.out _ (HB2.out.trans ((qab _ _).mono HB2.out.size))⟩
theorem qda(xb _mb:Nat)(xk xn:Int)(xtr:Bool)(xtx:ByteArray)(xm:Int)(xa:Option Addr)(n xcap:Nat)(w:World)(Q:Ending->World->Prop)(hn:n+1<=1000000)(hl:n+1<3)
  (hW:∀w',Lk (w.alloc (.cells (Dl.cells ⟨xk,xn,xtr,xtx,xm,xa,n+1,xcap⟩) 134)) w'->Calls prog 232 #[bp xb,.agg (Dl.cells ⟨xk,xn,xtr,xtx,xm,xa,n+1,xcap⟩)] w' fun e w2=>e=.returned (.string ⟨#[108,97,109,98,100,97]⟩)/\Below w'.heap.size w' w2)
  (hQ:∀w',Below w.heap.size w w'->Q (.panicked (stopP (stopV 4))) w'):
  Calls prog 297 #[bp xb,.agg (Dl.cells ⟨xk,xn,xtr,xtx,xm,xa,n+1,xcap⟩)] w Q:=by
 have hcase:n=0\/n=1:=by omega
 clear hl hn;rcases hcase with rfl|rfl;all_goals
  have HQ:=hZ hQ;have HW:=hZ hW;clear hW hQ;go_enter func297,ntmps297
  go_wp2_with (first|(go_at_call 290;refine(qam _).mono ?_;rintro e w2 ⟨rfl,hww⟩;obtain rfl:=hww.symm)|(go_at_call 232;refine(HW.out _ (by exact⟨rfl,rfl,rfl,rfl⟩)).mono ?_;rintro e w2 ⟨rfl,hb⟩;refine Hid.out ?_))
  have hb2:Below w.heap.size w w2:=(qab _ _).trans (hb.mono (by simp));have HB2:=hZ hb2;clear hb hb2 HW;refine hZ ?_;go_wp2_with (first|(go_at_call 290;refine(qax _).mono ?_;rintro e w3 ⟨rfl,o,rfl⟩))
  exact⟨rfl,HQ.out _ (HB2.out.trans ((qab _ _).mono HB2.out.size))⟩
theorem qdo(xb _mb:Nat)(xk xn:Int)(xtr:Bool)(xtx:ByteArray)(xm:Int)(xa:Option Addr)(n xcap:Nat)(w:World)(Q:Ending->World->Prop)(hn:n+1<=1000000)(hl:n+1<2)
  (hW:∀w',Lk (w.alloc (.cells (Dl.cells ⟨xk,xn,xtr,xtx,xm,xa,n+1,xcap⟩) 134)) w'->Calls prog 232 #[bp xb,.agg (Dl.cells ⟨xk,xn,xtr,xtx,xm,xa,n+1,xcap⟩)] w' fun e w2=>e=.returned (.string ⟨#[98,101,103,105,110]⟩)/\Below w'.heap.size w' w2)
  (hQ:∀w',Below w.heap.size w w'->Q (.panicked (stopP (stopV 4))) w'):
  Calls prog 297 #[bp xb,.agg (Dl.cells ⟨xk,xn,xtr,xtx,xm,xa,n+1,xcap⟩)] w Q:=by
 obtain rfl:n=0:=by omega
 have HQ:=hZ hQ;have HW:=hZ hW;clear hW hQ;go_enter func297,ntmps297
 go_wp2_with (first|(go_at_call 290;refine(qam _).mono ?_;rintro e w2 ⟨rfl,hww⟩;obtain rfl:=hww.symm)|(go_at_call 232;refine(HW.out _ (by exact⟨rfl,rfl,rfl,rfl⟩)).mono ?_;rintro e w2 ⟨rfl,hb⟩;refine Hid.out ?_))
 have hb2:Below w.heap.size w w2:=(qab _ _).trans (hb.mono (by simp));have HB2:=hZ hb2;clear hb hb2 HW;refine hZ ?_;go_wp2_with (first|(go_at_call 290;refine(qax _).mono ?_;rintro e w3 ⟨rfl,o,rfl⟩))
 exact⟨rfl,HQ.out _ (HB2.out.trans ((qab _ _).mono HB2.out.size))⟩
theorem qfa(xb _mb:Nat)(xk xn:Int)(xtr:Bool)(xtx:ByteArray)(xm:Int)(xa:Option Addr)(n xcap:Nat)(w:World)(Q:Ending->World->Prop)(hn:n+1<=1000000)
  (hW:∀w',Lk (w.alloc (.cells (Dl.cells ⟨xk,xn,xtr,xtx,xm,xa,n+1,xcap⟩) 134)) w'->Calls prog 232 #[bp xb,.agg (Dl.cells ⟨xk,xn,xtr,xtx,xm,xa,n+1,xcap⟩)] w' fun e w2=>e=.returned (.string ⟨#[100,101,102,105,110,101]⟩)/\Below w'.heap.size w' w2)
  (hQ:∀w',Below w.heap.size w w'->Q (.panicked (stopP (stopV 4))) w'):
  Calls prog 297 #[bp xb,.agg (Dl.cells ⟨xk,xn,xtr,xtx,xm,xa,n+1,xcap⟩)] w Q:=by
 have HQ:=hZ hQ;clear hQ;have HW:=hZ hW;clear hW;have hpos:(0:Int)<(n:Int)+1:=by omega
 go_enter func297,ntmps297
 go_wp2_with (first|(go_at_call 290;refine(qam _).mono ?_;rintro e w2 ⟨rfl,hww⟩;obtain rfl:=hww.symm)|(go_at_call 232;refine(HW.out _ (by exact⟨rfl,rfl,rfl,rfl⟩)).mono ?_;rintro e w2 ⟨rfl,hb⟩;refine Hid.out ?_))
 have hb2:Below w.heap.size w w2:=(qab _ _).trans (hb.mono (by simp));have HB2:=hZ hb2;clear hb hb2 HW;refine hZ ?_;go_wp2_with (first|(go_at_call 131;refine(qc6 4 _).mono ?_;rintro e w3 ⟨rfl,o,rfl⟩))
 exact⟨rfl,HQ.out _ (HB2.out.trans ((qab _ _).mono HB2.out.size))⟩
theorem qe8(xb _mb:Nat)(xk xn:Int)(xtr:Bool)(xtx:ByteArray)(xm:Int)(xa:Option Addr)(n xcap:Nat)(w:World)(Q:Ending->World->Prop)(hn:n+1<=1000000)
  (hW:∀w',Lk (w.alloc (.cells (Dl.cells ⟨xk,xn,xtr,xtx,xm,xa,n+1,xcap⟩) 134)) w'->Calls prog 232 #[bp xb,.agg (Dl.cells ⟨xk,xn,xtr,xtx,xm,xa,n+1,xcap⟩)] w' fun e w2=>e=.returned (.string ⟨#[100,101,102,105,110,101,45,115,121,110,116,97,120]⟩)/\Below w'.heap.size w' w2)
  (hQ:∀w',Below w.heap.size w w'->Q (.panicked (stopP (stopV 4))) w'):
  Calls prog 297 #[bp xb,.agg (Dl.cells ⟨xk,xn,xtr,xtx,xm,xa,n+1,xcap⟩)] w Q:=by
 have HQ:=hZ hQ;clear hQ;have HW:=hZ hW;clear hW;have hpos:(0:Int)<(n:Int)+1:=by omega
 go_enter func297,ntmps297
 go_wp2_with (first|(go_at_call 290;refine(qam _).mono ?_;rintro e w2 ⟨rfl,hww⟩;obtain rfl:=hww.symm)|(go_at_call 232;refine(HW.out _ (by exact⟨rfl,rfl,rfl,rfl⟩)).mono ?_;rintro e w2 ⟨rfl,hb⟩;refine Hid.out ?_))
 have hb2:Below w.heap.size w w2:=(qab _ _).trans (hb.mono (by simp));have HB2:=hZ hb2;clear hb hb2 HW;refine hZ ?_;go_wp2_with (first|(go_at_call 131;refine(qc6 4 _).mono ?_;rintro e w3 ⟨rfl,o,rfl⟩))
 exact⟨rfl,HQ.out _ (HB2.out.trans ((qab _ _).mono HB2.out.size))⟩
theorem qja(xb:Nat)(xk xn:Int)(xtr:Bool)(xtx:ByteArray)(xm:Int)(xa:Option Addr)(xcap:Nat)(w:World)(Q:Ending->World->Prop)
  (hQ:∀w',Below w.heap.size w w'->Q (.panicked (stopP (stopV 4))) w'):
  Calls prog 297 #[bp xb,.agg (Dl.cells ⟨xk,xn,xtr,xtx,xm,xa,0,xcap⟩)] w Q:=by
 have HQ:=hZ hQ;clear hQ;go_enter func297,ntmps297
 go_wp2_with (first|(go_at_call 290;refine(qax _).mono ?_;rintro e w3 ⟨rfl,o,rfl⟩))
 exact⟨rfl,HQ.out _ (((qab _ _).alloc (by simp) _))⟩
theorem qge(xb mb:Nat)(xk xn:Int)(xtr:Bool)(xtx:ByteArray)(xm:Int)(g o:Nat)(xcap:Nat)(w:World)(Q:Ending->World->Prop)(yk yn:Int)(ytr:Bool)(ytx:ByteArray)(ym:Int)(ya:Option Addr)(ylen ycap:Nat)(c0:w.cell? ⟨xb,0,none⟩=some (bp mb))(c1:w.cell? ⟨g,o+6,none⟩=some (.int .i64 yk))(c2:w.cell? ⟨g,o+6+1,none⟩=some (.int .i64 yn))(c3:w.cell? ⟨g,o+6+2,none⟩=some (.bool ytr))(c4:w.cell? ⟨g,o+6+3,none⟩=some (.string ytx))(c5:w.cell? ⟨g,o+6+4,none⟩=some (.int .i64 ym))(c6:w.cell? ⟨g,o+6+5,none⟩=some (.slice ya ylen ycap))
  (hW:∀w',Lk (w.alloc (.cells (Dl.cells ⟨xk,xn,xtr,xtx,xm,some ⟨g,o,none⟩,2,xcap⟩) 134)) w'->Calls prog 232 #[bp xb,.agg (Dl.cells ⟨xk,xn,xtr,xtx,xm,some ⟨g,o,none⟩,2,xcap⟩)] w' fun e w2=>e=.returned (.string ⟨#[113,117,111,116,101]⟩)/\Below w'.heap.size w' w2)
  (hE:∀w',Below w.heap.size w w'->Calls prog 298 #[bp mb,.agg (Dl.cells ⟨yk,yn,ytr,ytx,ym,ya,ylen,ycap⟩)] w' (RQ Q)):
  Calls prog 297 #[bp xb,.agg (Dl.cells ⟨xk,xn,xtr,xtx,xm,some ⟨g,o,none⟩,2,xcap⟩)] w Q:=by
 have HE:=hZ hE;clear hE;have l0:=qac c0;have HW:=hZ hW;clear hW;go_enter func297,ntmps297
 go_wp2_with (first|(go_at_call 290;refine(qam _).mono ?_;rintro e w2 ⟨rfl,hww⟩;obtain rfl:=hww.symm)|(go_at_call 232;refine(HW.out _ (by exact⟨rfl,rfl,rfl,rfl⟩)).mono ?_;rintro e w2 ⟨rfl,hb⟩;refine Hid.out ?_))
 have hb2:Below w.heap.size w w2:=(qab _ _).trans (hb.mono (by simp));have d0:=(hb2.cell (p:=⟨xb,0,none⟩) l0).trans c0;have d1:=(hb2.cell (p:=⟨g,_,none⟩) (qac c1)).trans c1;have d2:=(hb2.cell (p:=⟨g,_,none⟩) (qac c2)).trans c2;have d3:=(hb2.cell (p:=⟨g,_,none⟩) (qac c3)).trans c3;have d4:=(hb2.cell (p:=⟨g,_,none⟩) (qac c4)).trans c4;have d5:=(hb2.cell (p:=⟨g,_,none⟩) (qac c5)).trans c5;have d6:=(hb2.cell (p:=⟨g,_,none⟩) (qac c6)).trans c6;have HB2:=hZ hb2;clear hb hb2 HW c0 c1 c2 c3 c4 c5 c6;refine hZ ?_;go_wp2_with (first|(go_at_call 290;refine(qam _).mono ?_;rintro e w2 ⟨rfl,hww⟩;obtain rfl:=hww.symm))
 refine qai 7 (by kernel_rfl) (by kernel_rfl) ?_;simp only[List.take_succ_cons,List.take_zero,List.drop_succ_cons,List.drop_zero];repeat still_step
 refine wpStill_nil ?_;go_wp2_with (first|(go_at_call 298;refine(HE.out _ (HB2.out.trans ((bl0 (by exact⟨rfl,rfl,rfl,rfl⟩)).mono HB2.out.size))).mono ?_;rintro e w3 (⟨ps,rfl,hq⟩|⟨v,rfl,hq⟩);(exact⟨rfl,hq⟩);have HQ:=hZ hq;clear hq))
 exact HQ.out
theorem qe9(xb _mb:Nat)(xk xn:Int)(xtr:Bool)(xtx:ByteArray)(xm:Int)(g o:Nat)(n xcap:Nat)(w:World)(Q:Ending->World->Prop)(yk yn:Int)(ytr:Bool)(ytx:ByteArray)(ym:Int)(ya:Option Addr)(ylen ycap:Nat)(c1:w.cell? ⟨g,o+6,none⟩=some (.int .i64 yk))(c2:w.cell? ⟨g,o+6+1,none⟩=some (.int .i64 yn))(c3:w.cell? ⟨g,o+6+2,none⟩=some (.bool ytr))(c4:w.cell? ⟨g,o+6+3,none⟩=some (.string ytx))(c5:w.cell? ⟨g,o+6+4,none⟩=some (.int .i64 ym))(c6:w.cell? ⟨g,o+6+5,none⟩=some (.slice ya ylen ycap))(hn:n+3<=1000000)(hcp:n+3<=xcap)
  (hW:∀w',Lk (w.alloc (.cells (Dl.cells ⟨xk,xn,xtr,xtx,xm,some ⟨g,o,none⟩,n+3,xcap⟩) 134)) w'->Calls prog 232 #[bp xb,.agg (Dl.cells ⟨xk,xn,xtr,xtx,xm,some ⟨g,o,none⟩,n+3,xcap⟩)] w' fun e w2=>e=.returned (.string ⟨#[108,97,109,98,100,97]⟩)/\Below w'.heap.size w' w2)
  (hE:∀w',Below w.heap.size w w'->Calls prog 293 #[bp xb,.agg (Dl.cells ⟨yk,yn,ytr,ytx,ym,ya,ylen,ycap⟩),.slice (tlD g o xcap 2) (n+1) (xcap-2)] w' (RQ Q)):
  Calls prog 297 #[bp xb,.agg (Dl.cells ⟨xk,xn,xtr,xtx,xm,some ⟨g,o,none⟩,n+3,xcap⟩)] w Q:=by
 have hsl:∀w,(Instr.slice 132 (.slice (some ⟨g,o,none⟩) (n+3) xcap) (some (.int .i64 2)) none none).run prog w=.ok (.slice (tlD g o xcap 2) (n+1) (xcap-2)) w:=fun w=>qdg g o (n+1) xcap hcp w
 have HE:=hZ hE;clear hE;have HW:=hZ hW;clear hW;have hpos:(0:Int)<(n:Int)+3:=by omega
 have hge:(3:Int)<=(n:Int)+3:=by omega
 have hlt:(1:Int)<(n:Int)+3:=by omega
 go_enter func297,ntmps297
 go_wp2_with (first|(go_at_call 290;refine(qam _).mono ?_;rintro e w2 ⟨rfl,hww⟩;obtain rfl:=hww.symm)|(go_at_call 232;refine(HW.out _ (by exact⟨rfl,rfl,rfl,rfl⟩)).mono ?_;rintro e w2 ⟨rfl,hb⟩;refine Hid.out ?_))
 have hb2:Below w.heap.size w w2:=(qab _ _).trans (hb.mono (by simp));have d1:=(hb2.cell (p:=⟨g,_,none⟩) (qac c1)).trans c1;have d2:=(hb2.cell (p:=⟨g,_,none⟩) (qac c2)).trans c2;have d3:=(hb2.cell (p:=⟨g,_,none⟩) (qac c3)).trans c3;have d4:=(hb2.cell (p:=⟨g,_,none⟩) (qac c4)).trans c4;have d5:=(hb2.cell (p:=⟨g,_,none⟩) (qac c5)).trans c5;have d6:=(hb2.cell (p:=⟨g,_,none⟩) (qac c6)).trans c6;have HB2:=hZ hb2;clear hb hb2 HW c1 c2 c3 c4 c5 c6;refine hZ ?_;go_wp2_with (first|(go_at_call 290;refine(qam _).mono ?_;rintro e w2 ⟨rfl,hww⟩;obtain rfl:=hww.symm))
 refine qai 6 (by kernel_rfl) (by kernel_rfl) ?_;simp only[List.take_succ_cons,List.take_zero,List.drop_succ_cons,List.drop_zero];repeat still_step
 refine wpStill_nil ?_;go_wp2_with (first|(go_at_call 293;refine(HE.out _ (HB2.out.trans ((bl0 (by exact⟨rfl,rfl,rfl,rfl⟩)).mono HB2.out.size))).mono ?_;rintro e w3 (⟨ps,rfl,hq⟩|⟨v,rfl,hq⟩);(exact⟨rfl,hq⟩);have HQ:=hZ hq;clear hq))
 exact HQ.out
theorem qgf(xb mb:Nat)(xk xn:Int)(xtr:Bool)(xtx:ByteArray)(xm:Int)(g o:Nat)(n xcap:Nat)(w:World)(Q:Ending->World->Prop)(c0:w.cell? ⟨xb,0,none⟩=some (bp mb))(hn:n+2<=1000000)(hcp:n+2<=xcap)
  (hW:∀w',Lk (w.alloc (.cells (Dl.cells ⟨xk,xn,xtr,xtx,xm,some ⟨g,o,none⟩,n+2,xcap⟩) 134)) w'->Calls prog 232 #[bp xb,.agg (Dl.cells ⟨xk,xn,xtr,xtx,xm,some ⟨g,o,none⟩,n+2,xcap⟩)] w' fun e w2=>e=.returned (.string ⟨#[98,101,103,105,110]⟩)/\Below w'.heap.size w' w2)
  (hE:∀w',Below w.heap.size w w'->Calls prog 334 #[bp xb,.slice (tlD g o xcap 1) (n+1) (xcap-1)] w' (RetP (fun v w2=>∃a l c,v=.slice a l c/\w2.cell? ⟨xb,0,none⟩=some (bp mb)/\∀w3,Lk w2 w3->Calls prog 338 #[bp mb,.slice a l c] w3 (RX xb mb Q)) Q)):
  Calls prog 297 #[bp xb,.agg (Dl.cells ⟨xk,xn,xtr,xtx,xm,some ⟨g,o,none⟩,n+2,xcap⟩)] w Q:=by
 have hsl:∀w,(Instr.slice 132 (.slice (some ⟨g,o,none⟩) (n+2) xcap) (some (.int .i64 1)) none none).run prog w=.ok (.slice (tlD g o xcap 1) (n+1) (xcap-1)) w:=fun w=>qdh g o (n+1) xcap hcp w
 have HE:=hZ hE;have l0:=qac c0;clear hE;have HW:=hZ hW;clear hW;have hpos:(0:Int)<(n:Int)+2:=by omega
 have hge:(2:Int)<=(n:Int)+2:=by omega
 go_enter func297,ntmps297
 go_wp2_with (first|(go_at_call 290;refine(qam _).mono ?_;rintro e w2 ⟨rfl,hww⟩;obtain rfl:=hww.symm)|(go_at_call 232;refine(HW.out _ (by exact⟨rfl,rfl,rfl,rfl⟩)).mono ?_;rintro e w2 ⟨rfl,hb⟩;refine Hid.out ?_))
 have hb2:Below w.heap.size w w2:=(qab _ _).trans (hb.mono (by simp));have d0:=(hb2.cell (p:=⟨xb,0,none⟩) l0).trans c0;have HB2:=hZ hb2;clear hb hb2 HW;refine hZ ?_;go_wp2_with (first|(go_at_call 290;refine(qam _).mono ?_;rintro e w2 ⟨rfl,hww⟩;obtain rfl:=hww.symm))
 go_region_held2 (fun w'=>w'.cell? ⟨xb,0,none⟩=some (bp mb)) (first|(exact d0)|(exact HS1.out)|(exact HS2.out)|go_keep)
  (first
   |(go_at_call 334;refine(HE.out _ (HB2.out.trans ((bl0 (by exact⟨rfl,rfl,rfl,rfl⟩)).mono HB2.out.size))).mono ?_;rintro e w3 (⟨ps,rfl,hq⟩|⟨v,rfl,a,l,c,rfl,hc,hk⟩);(exact⟨rfl,hq⟩);have HS1:=hZ hc;have HK:=hZ hk;clear hc hk)
   |(go_at_call 338;refine(HK.out _ (by exact⟨rfl,rfl,rfl,rfl⟩)).mono ?_;rintro e w4 (⟨ps,rfl,hq⟩|⟨v,rfl,hc,hq⟩);(exact⟨rfl,hq⟩);have HS2:=hZ hc;have HQ:=hZ hq;clear hc hq))
 all_goals go_wp2
 all_goals exact HQ.out
end
section
open Sc
theorem qf7{w:World}{lo e:Nat}{v:Value}{n:Nat}{xs:List Value}{g l c:Nat}(h:w.ownsRow lo e 1 v n xs)(hv:v=.slice (some ⟨g,0,none⟩) l c){i:Nat}{x:Value}(hx:xs[i]? =some x):w.cell? ⟨g,i,none⟩=some x:=by
 rcases h.2 with⟨h1,h2⟩|⟨g',cap,cur,h1,hb,hg,hn,hm,hsz,htk⟩
 ·rw[h1]at hv;cases hv
 ·rw[h1]at hv;cases hv;rw[<-htk,List.getElem?_take]at hx;split at hx
  ·simp only[World.cell?,hg];simpa using hx
  ·cases hx
theorem qju(xb mb g o n xcap:Nat)(w:World)(Q:Ending->World->Prop)(c0:w.cell? ⟨xb,0,none⟩=some (bp mb))(hn:n=2\/n=3)(hcp:n+1<=xcap)
  (hE:∀w',Below w.heap.size w w'->Calls prog 334 #[bp xb,.slice (tlD g o xcap 1) n (xcap-1)] w' (RetP (fun v w2=>∃a c lo k0 k1 k2 c0 c1 c2 xs,v=.slice a n c/\w2.ownsRow lo 241 1 (.slice a n c) n xs/\lo<=w2.heap.size/\(xs++[.func (.func 235) #[] #[]])[0]? =some (.func (.func k0) #[] c0)/\(xs++[.func (.func 235) #[] #[]])[1]? =some (.func (.func k1) #[] c1)/\(xs++[.func (.func 235) #[] #[]])[2]? =some (.func (.func k2) #[] c2)/\
   ∀w3,w2.grownBy w3 (Value.slice a n c).ownBlock->w3.cell? ⟨xb,0,none⟩=some (bp mb)/\∀w4,Lk w3 w4->Calls prog 373 #[bp mb,.func (.func k0) #[] c0,.func (.func k1) #[] c1,.func (.func k2) #[] c2] w4 (RQ Q)) Q)):
  Calls prog 335 #[bp xb,.slice (some ⟨g,o,none⟩) (n+1) xcap] w Q:=by
 obtain⟨i0,hi,hz0',hz1',hz2'⟩:=info_parts qjk;have hsl:∀w,(Instr.slice 132 (.slice (some ⟨g,o,none⟩) (n+1) xcap) (some (.int .i64 1)) none none).run prog w=.ok (.slice (tlD g o xcap 1) n (xcap-1)) w:=fun w=>qdh g o n xcap hcp w
 have HE:=hZ hE;have l0:=qac c0;clear hE;have hnn:n<=3:=by omega
 have hor:((n:Int)+1==3)=true\/(((n:Int)+1==3)=false/\((n:Int)+1==4)=true):=by
  rcases hn with rfl|rfl
  ·left;rfl
  ·right;exact⟨rfl,rfl⟩
 clear hn;rcases hor with h3|⟨h3,h4⟩;all_goals
  go_enter func335,ntmps335
  go_wp2_with (first|(go_at_call 290;refine(qam _).mono ?_;rintro e w2 ⟨rfl,hww⟩;obtain rfl:=hww.symm)|(go_at_call 334;refine(HE.out _ (by first|exact Below.refl _ _|exact bl0 (by exact⟨rfl,rfl,rfl,rfl⟩))).mono ?_;rintro e w2 (⟨ps,rfl,hq⟩|⟨v,rfl,a,c,lo,k0,k1,k2,d0,d1,d2,xs,rfl,hown,hlo,hx0,hx1,hx2,hK⟩);(exact⟨rfl,hq⟩);refine Hid.out ?_))
  have HOwn:Hid (w2.ownsRow lo 241 1 (.slice a n c) n xs):=hown;have HX:=hZ (And.intro hx0 (And.intro hx1 hx2));have HK:=hZ hK;clear hown hx0 hx1 hx2 hK;refine hZ ?_;go_wp2_with (at_builtin;refine wpList_append_lies _ rfl _ _ 426 rfl lo 241 i0 .nilFunc 1 8 underlying426 hi hz0' hz1' hz2' rfl (by decide) _ _ _ rfl (HOwn.out.alloc _) ⟨w2.heap.size,0,none⟩ 1 1 [.func (.func 235) #[] #[]] rfl rfl ?c1 ?c2 (by decide) ?c3 ?c4 ?c5 (w2.heap.size+1) ?c6 ?_)
  case c1=>exact World.news_of_block (cs:=#[.func (.func 235) #[] #[]]) (by have:=heap_alloc_new w2 (.cells #[.func (.func 235) #[] #[]] 241);simpa using this)
  case c2=>intro u hu;simp at hu;rcases hu with rfl;rfl
  case c3=>unfold maxLen;omega
  case c4=>omega
  case c5=>simp;omega
  case c6=>simp
  intro g3 cap3 w3 hown3 hgrow3 hat3 hlt3;refine Hid.out ?_;obtain⟨hx0,hx1,hx2⟩:=HX.out;have p0:=qf7 hown3 rfl hx0;have p1:=qf7 hown3 rfl hx1;have p2:=qf7 hown3 rfl hx2;obtain⟨cx,hk3⟩:=HK.out w3 (qbf hgrow3);have HK3:=hZ hk3;clear hk3 hown3 hgrow3 hat3 hlt3 hx0 hx1 hx2 HK HOwn HX HE;have hq0:(0:Int)<(n:Int)+1:=by omega
  have hq1:(1:Int)<(n:Int)+1:=by first|omega|(simp at h3;omega)|(simp at h4;omega)
  have hq2:(2:Int)<(n:Int)+1:=by first|omega|(simp at h3;omega)|(simp at h4;omega)
  refine hZ ?_;go_wp2_with (fail)
  refine qai 13 (by kernel_rfl) (by kernel_rfl) ?_;simp only[List.take_succ_cons,List.take_zero,List.drop_succ_cons,List.drop_zero];repeat still_step
  refine wpStill_nil ?_;go_wp2_with (first|(go_at_call 373;refine(HK3.out _ (by exact⟨rfl,rfl,rfl,rfl⟩)).mono ?_;rintro e w4 (⟨ps,rfl,hq⟩|⟨v,rfl,hq⟩);(exact⟨rfl,hq⟩);have HQ:=hZ hq;clear hq))
  exact HQ.out
end
section
open Sc
theorem qgv(xb mb g o xcap:Nat)(u v:Int)(yn:Int)(ytr:Bool)(ytx:ByteArray)(ym:Int)(ya:Option Addr)(ylen ycap:Nat)(zk zn:Int)(ztr:Bool)(ztx:ByteArray)(zm:Int)(za:Option Addr)(zlen zcap:Nat)(w:World)(Q:Ending->World->Prop)(c0:w.cell? ⟨xb,0,none⟩=some (bp mb))(a0:w.cell? ⟨g,o+6,none⟩=some (.int .i64 3))(a1:w.cell? ⟨g,o+6+1,none⟩=some (.int .i64 yn))(a2:w.cell? ⟨g,o+6+2,none⟩=some (.bool ytr))(a3:w.cell? ⟨g,o+6+3,none⟩=some (.string ytx))(a4:w.cell? ⟨g,o+6+4,none⟩=some (.int .i64 ym))(a5:w.cell? ⟨g,o+6+5,none⟩=some (.slice ya ylen ycap))(b0:w.cell? ⟨g,o+12,none⟩=some (.int .i64 zk))(b1:w.cell? ⟨g,o+12+1,none⟩=some (.int .i64 zn))(b2:w.cell? ⟨g,o+12+2,none⟩=some (.bool ztr))(b3:w.cell? ⟨g,o+12+3,none⟩=some (.string ztx))(b4:w.cell? ⟨g,o+12+4,none⟩=some (.int .i64 zm))(b5:w.cell? ⟨g,o+12+5,none⟩=some (.slice za zlen zcap))
  (hM:∀w',Below w.heap.size w w'->Calls prog 318 #[bp xb,.agg #[.string ytx,.int .i64 ym]] w' fun e w2=>e=.returned (.tuple #[.int .i64 0,.agg #[.int .i64 u,.int .i64 v]])/\Below w'.heap.size w' w2)
  (hE:∀w',Below w.heap.size w w'->Calls prog 236 #[bp xb,.agg (Dl.cells ⟨zk,zn,ztr,ztx,zm,za,zlen,zcap⟩)] w' (RetP (fun x w2=>∃kc cc,x=.func (.func kc) #[] cc/\w2.cell? ⟨xb,0,none⟩=some (bp mb)/\(∀b,w.heap.size<=b->b<w'.heap.size->w2.heap[b]? =w'.heap[b]?)/\∀w3,Lk w2 w3->Calls prog 374 #[bp mb,.agg #[.int .i64 u,.int .i64 v],.func (.func kc) #[] cc] w3 (RQ Q)) Q)):
  Calls prog 336 #[bp xb,.slice (some ⟨g,o,none⟩) 3 xcap] w Q:=by
 have l0:=qac c0;have HM:=hZ hM;have HE:=hZ hE;clear hM hE;go_enter func336,ntmps336
 go_wp2_with (first|(go_at_call 290;refine(qam _).mono ?_;rintro e w2 ⟨rfl,hww⟩;obtain rfl:=hww.symm)|(go_at_call 296;refine(qbt yn ytr ytx ym ya ylen ycap _).mono ?_;rintro e w2 ⟨rfl,hb⟩;refine Hid.out ?_))
 have hb1:Below w.heap.size w (w2.alloc (.cells #[.string ytx,.int .i64 ym] 382)):=hb.trans ((qab _ _).mono hb.size);have hn1:=heap_alloc_new w2 (.cells #[.string ytx,.int .i64 ym] 382);have hq1:w.heap.size<=w2.heap.size:=hb.size;have HB1:=hZ hb1;have HN1:=hZ hn1;clear hb hb1 hn1;refine hZ ?_;go_wp2_with (first|(go_at_call 318;refine(HM.out _ HB1.out).mono ?_;rintro e w3 ⟨rfl,hb⟩;refine Hid.out ?_))
 have hb3:Below w.heap.size w w3:=HB1.out.trans (hb.mono HB1.out.size);have hb4:Below w.heap.size w (w3.alloc (.cells #[.int .i64 u,.int .i64 v] 395)):=hb3.trans ((qab _ _).mono hb3.size);have hn3:(w3.alloc (.cells #[.int .i64 u,.int .i64 v] 395)).heap[w2.heap.size]? =some (.cells #[.string ytx,.int .i64 ym] 382 (0,0)):=by
  have e1:=(hb.block _ (by simp)).trans HN1.out;rw[Below.heap_alloc _ _ _ (Array.getElem?_eq_some_iff.1 e1).1];exact e1
 have hn4:=heap_alloc_new w3 (.cells #[.int .i64 u,.int .i64 v] 395);have hq4:w.heap.size<=w3.heap.size:=hb3.size;have e0:(w3.alloc (.cells #[.int .i64 u,.int .i64 v] 395)).cell? ⟨g,o+12,none⟩=some (.int .i64 zk):=(hb4.cell (p:=⟨g,_,none⟩) (qac b0)).trans b0;have e1:(w3.alloc (.cells #[.int .i64 u,.int .i64 v] 395)).cell? ⟨g,o+12+1,none⟩=some (.int .i64 zn):=(hb4.cell (p:=⟨g,_,none⟩) (qac b1)).trans b1;have e2:(w3.alloc (.cells #[.int .i64 u,.int .i64 v] 395)).cell? ⟨g,o+12+2,none⟩=some (.bool ztr):=(hb4.cell (p:=⟨g,_,none⟩) (qac b2)).trans b2;have e3:(w3.alloc (.cells #[.int .i64 u,.int .i64 v] 395)).cell? ⟨g,o+12+3,none⟩=some (.string ztx):=(hb4.cell (p:=⟨g,_,none⟩) (qac b3)).trans b3;have e4:(w3.alloc (.cells #[.int .i64 u,.int .i64 v] 395)).cell? ⟨g,o+12+4,none⟩=some (.int .i64 zm):=(hb4.cell (p:=⟨g,_,none⟩) (qac b4)).trans b4;have e5:(w3.alloc (.cells #[.int .i64 u,.int .i64 v] 395)).cell? ⟨g,o+12+5,none⟩=some (.slice za zlen zcap):=(hb4.cell (p:=⟨g,_,none⟩) (qac b5)).trans b5;have HB4:=hZ hb4;have HN3:=hZ (And.intro hn3 hn4);clear hb hb3 hb4 hn3 hn4 HM HB1 HN1 b0 b1 b2 b3 b4 b5 a0 a1 a2 a3 a4 a5;refine hZ ?_;go_wp2_with (first|(go_at_call 290;refine(qam _).mono ?_;rintro e w2 ⟨rfl,hww⟩;obtain rfl:=hww.symm)|(go_at_call 236;refine(HE.out _ HB4.out).mono ?_;rintro e w4 (⟨ps,rfl,hq⟩|⟨x,rfl,kc,cc,rfl,cx,hkp,hK⟩);(exact⟨rfl,hq⟩);refine Hid.out ?_))
 have hm4:=(hkp w3.heap.size hq4 (by simp)).trans HN3.out.2;have k0:w4.cell? ⟨w3.heap.size,0,none⟩=some (.int .i64 u):=by simp only[World.cell?,hm4];rfl
 have k1:w4.cell? ⟨w3.heap.size,1,none⟩=some (.int .i64 v):=by simp only[World.cell?,hm4];rfl
 have HK:=hZ hK;clear hK hkp hm4 HN3 HB4 HE e0 e1 e2 e3 e4 e5;refine hZ ?_;go_wp2_with (fail)
 refine qai 6 (by kernel_rfl) (by kernel_rfl) ?_;simp only[List.take_succ_cons,List.take_zero,List.drop_succ_cons,List.drop_zero];repeat still_step
 refine wpStill_nil ?_;go_wp2_with (first|(go_at_call 374;refine(HK.out _ (by exact⟨rfl,rfl,rfl,rfl⟩)).mono ?_;rintro e w4 (⟨ps,rfl,hq⟩|⟨v,rfl,hq⟩);(exact⟨rfl,hq⟩);have HQ:=hZ hq;clear hq))
 exact HQ.out
theorem qgx(xb mb g o xcap:Nat)(u v:Int)(yn:Int)(ytr:Bool)(ytx:ByteArray)(ym:Int)(ya:Option Addr)(ylen ycap:Nat)(zk zn:Int)(ztr:Bool)(ztx:ByteArray)(zm:Int)(za:Option Addr)(zlen zcap:Nat)(w:World)(Q:Ending->World->Prop)(c0:w.cell? ⟨xb,0,none⟩=some (bp mb))(a0:w.cell? ⟨g,o+6,none⟩=some (.int .i64 3))(a1:w.cell? ⟨g,o+6+1,none⟩=some (.int .i64 yn))(a2:w.cell? ⟨g,o+6+2,none⟩=some (.bool ytr))(a3:w.cell? ⟨g,o+6+3,none⟩=some (.string ytx))(a4:w.cell? ⟨g,o+6+4,none⟩=some (.int .i64 ym))(a5:w.cell? ⟨g,o+6+5,none⟩=some (.slice ya ylen ycap))(b0:w.cell? ⟨g,o+12,none⟩=some (.int .i64 zk))(b1:w.cell? ⟨g,o+12+1,none⟩=some (.int .i64 zn))(b2:w.cell? ⟨g,o+12+2,none⟩=some (.bool ztr))(b3:w.cell? ⟨g,o+12+3,none⟩=some (.string ztx))(b4:w.cell? ⟨g,o+12+4,none⟩=some (.int .i64 zm))(b5:w.cell? ⟨g,o+12+5,none⟩=some (.slice za zlen zcap))
  (hM:∀w',Below w.heap.size w w'->Calls prog 318 #[bp xb,.agg #[.string ytx,.int .i64 ym]] w' fun e w2=>e=.returned (.tuple #[.int .i64 3,.agg #[.int .i64 u,.int .i64 v]])/\Below w'.heap.size w' w2)
  (hE:∀w',Below w.heap.size w w'->Calls prog 236 #[bp xb,.agg (Dl.cells ⟨zk,zn,ztr,ztx,zm,za,zlen,zcap⟩)] w' (RetP (fun x w2=>∃kc cc,x=.func (.func kc) #[] cc/\w2.cell? ⟨xb,0,none⟩=some (bp mb)/\(∀b,w.heap.size<=b->b<w'.heap.size->w2.heap[b]? =w'.heap[b]?)/\∀w3,Lk w2 w3->Calls prog 375 #[bp mb,.string ytx,.func (.func kc) #[] cc] w3 (RQ Q)) Q)):
  Calls prog 336 #[bp xb,.slice (some ⟨g,o,none⟩) 3 xcap] w Q:=by
 have l0:=qac c0;have HM:=hZ hM;have HE:=hZ hE;clear hM hE;go_enter func336,ntmps336
 go_wp2_with (first|(go_at_call 290;refine(qam _).mono ?_;rintro e w2 ⟨rfl,hww⟩;obtain rfl:=hww.symm)|(go_at_call 296;refine(qbt yn ytr ytx ym ya ylen ycap _).mono ?_;rintro e w2 ⟨rfl,hb⟩;refine Hid.out ?_))
 have hb1:Below w.heap.size w (w2.alloc (.cells #[.string ytx,.int .i64 ym] 382)):=hb.trans ((qab _ _).mono hb.size);have hn1:=heap_alloc_new w2 (.cells #[.string ytx,.int .i64 ym] 382);have hq1:w.heap.size<=w2.heap.size:=hb.size;have HB1:=hZ hb1;have HN1:=hZ hn1;clear hb hb1 hn1;refine hZ ?_;go_wp2_with (first|(go_at_call 318;refine(HM.out _ HB1.out).mono ?_;rintro e w3 ⟨rfl,hb⟩;refine Hid.out ?_))
 have hb3:Below w.heap.size w w3:=HB1.out.trans (hb.mono HB1.out.size);have hb4:Below w.heap.size w (w3.alloc (.cells #[.int .i64 u,.int .i64 v] 395)):=hb3.trans ((qab _ _).mono hb3.size);have hn3:(w3.alloc (.cells #[.int .i64 u,.int .i64 v] 395)).heap[w2.heap.size]? =some (.cells #[.string ytx,.int .i64 ym] 382 (0,0)):=by
  have e1:=(hb.block _ (by simp)).trans HN1.out;rw[Below.heap_alloc _ _ _ (Array.getElem?_eq_some_iff.1 e1).1];exact e1
 have hn4:=heap_alloc_new w3 (.cells #[.int .i64 u,.int .i64 v] 395);have hq4:w.heap.size<=w3.heap.size:=hb3.size;have e0:(w3.alloc (.cells #[.int .i64 u,.int .i64 v] 395)).cell? ⟨g,o+12,none⟩=some (.int .i64 zk):=(hb4.cell (p:=⟨g,_,none⟩) (qac b0)).trans b0;have e1:(w3.alloc (.cells #[.int .i64 u,.int .i64 v] 395)).cell? ⟨g,o+12+1,none⟩=some (.int .i64 zn):=(hb4.cell (p:=⟨g,_,none⟩) (qac b1)).trans b1;have e2:(w3.alloc (.cells #[.int .i64 u,.int .i64 v] 395)).cell? ⟨g,o+12+2,none⟩=some (.bool ztr):=(hb4.cell (p:=⟨g,_,none⟩) (qac b2)).trans b2;have e3:(w3.alloc (.cells #[.int .i64 u,.int .i64 v] 395)).cell? ⟨g,o+12+3,none⟩=some (.string ztx):=(hb4.cell (p:=⟨g,_,none⟩) (qac b3)).trans b3;have e4:(w3.alloc (.cells #[.int .i64 u,.int .i64 v] 395)).cell? ⟨g,o+12+4,none⟩=some (.int .i64 zm):=(hb4.cell (p:=⟨g,_,none⟩) (qac b4)).trans b4;have e5:(w3.alloc (.cells #[.int .i64 u,.int .i64 v] 395)).cell? ⟨g,o+12+5,none⟩=some (.slice za zlen zcap):=(hb4.cell (p:=⟨g,_,none⟩) (qac b5)).trans b5;have HB4:=hZ hb4;have HN3:=hZ (And.intro hn3 hn4);clear hb hb3 hb4 hn3 hn4 HM HB1 HN1 b0 b1 b2 b3 b4 b5 a0 a1 a2 a3 a4 a5;refine hZ ?_;go_wp2_with (first|(go_at_call 290;refine(qam _).mono ?_;rintro e w2 ⟨rfl,hww⟩;obtain rfl:=hww.symm)|(go_at_call 236;refine(HE.out _ HB4.out).mono ?_;rintro e w4 (⟨ps,rfl,hq⟩|⟨x,rfl,kc,cc,rfl,cx,hkp,hK⟩);(exact⟨rfl,hq⟩);refine Hid.out ?_))
 have hm4:=(hkp w2.heap.size hq1 (Array.getElem?_eq_some_iff.1 HN3.out.1).1).trans HN3.out.1;have k0:w4.cell? ⟨w2.heap.size,0,none⟩=some (.string ytx):=by simp only[World.cell?,hm4];rfl
 have HK:=hZ hK;clear hK hkp hm4 HN3 HB4 HE e0 e1 e2 e3 e4 e5;refine hZ ?_;go_wp2_with (fail)
 refine qai 7 (by kernel_rfl) (by kernel_rfl) ?_;simp only[List.take_succ_cons,List.take_zero,List.drop_succ_cons,List.drop_zero];repeat still_step
 refine wpStill_nil ?_;go_wp2_with (first|(go_at_call 375;refine(HK.out _ (by exact⟨rfl,rfl,rfl,rfl⟩)).mono ?_;rintro e w4 (⟨ps,rfl,hq⟩|⟨v,rfl,hq⟩);(exact⟨rfl,hq⟩);have HQ:=hZ hq;clear hq))
 exact HQ.out
theorem qgu(xb g o xcap:Nat)(mn u v:Int)(yn:Int)(ytr:Bool)(ytx:ByteArray)(ym:Int)(ya:Option Addr)(ylen ycap:Nat)(w:World)(Q:Ending->World->Prop)(a0:w.cell? ⟨g,o+6,none⟩=some (.int .i64 3))(a1:w.cell? ⟨g,o+6+1,none⟩=some (.int .i64 yn))(a2:w.cell? ⟨g,o+6+2,none⟩=some (.bool ytr))(a3:w.cell? ⟨g,o+6+3,none⟩=some (.string ytx))(a4:w.cell? ⟨g,o+6+4,none⟩=some (.int .i64 ym))(a5:w.cell? ⟨g,o+6+5,none⟩=some (.slice ya ylen ycap))(h0:mn≠0)(h3:mn≠3)
  (hM:∀w',Below w.heap.size w w'->Calls prog 318 #[bp xb,.agg #[.string ytx,.int .i64 ym]] w' fun e w2=>e=.returned (.tuple #[.int .i64 mn,.agg #[.int .i64 u,.int .i64 v]])/\Below w'.heap.size w' w2)
  (hQ:∀w',Below w.heap.size w w'->Q (.panicked (stopP (stopV 4))) w'):
  Calls prog 336 #[bp xb,.slice (some ⟨g,o,none⟩) 3 xcap] w Q:=by
 have HM:=hZ hM;have HQ:=hZ hQ;have e0:(mn==0)=false:=by simpa using h0
 have e3:(mn==3)=false:=by simpa using h3
 clear hM hQ;go_enter func336,ntmps336
 go_wp2_with (first|(go_at_call 290;refine(qam _).mono ?_;rintro e w2 ⟨rfl,hww⟩;obtain rfl:=hww.symm)|(go_at_call 296;refine(qbt yn ytr ytx ym ya ylen ycap _).mono ?_;rintro e w2 ⟨rfl,hb⟩;refine Hid.out ?_))
 have HB1:Hid (Below w.heap.size w (w2.alloc (.cells #[.string ytx,.int .i64 ym] 382))):=hb.trans ((qab _ _).mono hb.size);clear hb;refine hZ ?_;go_wp2_with (first|(go_at_call 318;refine(HM.out _ HB1.out).mono ?_;rintro e w3 ⟨rfl,hb⟩;have HB3:=hZ (HB1.out.trans (hb.mono HB1.out.size));clear hb)|(go_at_call 290;refine(qax _).mono ?_;rintro e w4 ⟨rfl,o,rfl⟩))
 exact⟨rfl,HQ.out _ (HB3.out.trans (((qab _ _).alloc (by simp) _).mono HB3.out.size))⟩
theorem qfe(xb g o xcap:Nat)(yk yn:Int)(ytr:Bool)(ytx:ByteArray)(ym:Int)(ya:Option Addr)(ylen ycap:Nat)(w:World)(Q:Ending->World->Prop)(a0:w.cell? ⟨g,o+6,none⟩=some (.int .i64 yk))(a1:w.cell? ⟨g,o+6+1,none⟩=some (.int .i64 yn))(a2:w.cell? ⟨g,o+6+2,none⟩=some (.bool ytr))(a3:w.cell? ⟨g,o+6+3,none⟩=some (.string ytx))(a4:w.cell? ⟨g,o+6+4,none⟩=some (.int .i64 ym))(a5:w.cell? ⟨g,o+6+5,none⟩=some (.slice ya ylen ycap))(h3:yk≠3)
  (hQ:∀w',Below w.heap.size w w'->Q (.panicked (stopP (stopV 4))) w'):
  Calls prog 336 #[bp xb,.slice (some ⟨g,o,none⟩) 3 xcap] w Q:=by
 have HQ:=hZ hQ;clear hQ;go_enter func336,ntmps336
 go_wp2_with (first|(go_at_call 290;refine(qam _).mono ?_;rintro e w2 ⟨rfl,hww⟩;obtain rfl:=hww.symm)|(go_at_call 296;refine(qgk yk yn ytr ytx ym ya ylen ycap _ h3).mono ?_;rintro e w2 ⟨rfl,hb⟩))
 exact⟨rfl,HQ.out _ hb⟩
theorem qgw(xb n xcap:Nat)(xa:Option Addr)(w:World)(Q:Ending->World->Prop)(hn:n≠3)
  (hQ:∀w',Below w.heap.size w w'->Q (.panicked (stopP (stopV 4))) w'):
  Calls prog 336 #[bp xb,.slice xa n xcap] w Q:=by
 have HQ:=hZ hQ;have hf:((n:Int)==3)=false:=by simp;omega
 clear hQ;go_enter func336,ntmps336
 go_wp2_with (first|(go_at_call 290;refine(qax _).mono ?_;rintro e w2 ⟨rfl,o,rfl⟩))
 exact⟨rfl,HQ.out _ (qab _ _)⟩
end
section
open Sc
theorem qp5(xb ab:Nat)(ba na:Option Addr)(bn bc nn nc:Nat)(w:World)(Q:Ending->World->Prop)(c3:w.cell? ⟨xb,3,none⟩=some (bp ab))
  (hE:Calls prog 359 #[bp ab,.slice na nn nc] w fun e w1=>e=.returned (.tuple #[])/\Calls prog 334 #[bp xb,.slice ba bn bc] w1 (RetP (fun v w2=>∃a n c,v=.slice a n c/\w2.cell? ⟨xb,3,none⟩=some (bp ab)/\
   Calls prog 360 #[bp ab,.slice na nn nc] w2 fun e w3=>e=.returned (.tuple #[])/\Calls prog 361 #[.slice a n c] w3 (RQ Q)) Q)):
  Calls prog 324 #[bp xb,.slice ba bn bc,.slice na nn nc] w Q:=by
 have HE:=hZ hE;clear hE;go_enter func324,ntmps324
 go_wp2_with (first|(go_at_call 359;refine HE.out.mono ?_;rintro e w1 ⟨rfl,h1⟩;have H1:=hZ h1;clear h1)|(go_at_call 334;refine H1.out.mono ?_;rintro e w2 (⟨ps,rfl,hq⟩|⟨v,rfl,a,n,c,rfl,cx,h2⟩);(exact⟨rfl,hq⟩);have H2:=hZ h2;clear h2)|(go_at_call 360;refine H2.out.mono ?_;rintro e w3 ⟨rfl,h3⟩;have H3:=hZ h3;clear h3)|(go_at_call 361;refine H3.out.mono ?_;rintro e w4 (⟨ps,rfl,hq⟩|⟨v,rfl,hq⟩);(exact⟨rfl,hq⟩);have HQ:=hZ hq;clear hq))
 exact HQ.out
theorem qhf(xb mb:Nat)(xn:Int)(xtr:Bool)(xtx:ByteArray)(xm:Int)(xa:Option Addr)(xlen xcap:Nat)(ba:Option Addr)(bn bc:Nat)(w:World)(Q:Ending->World->Prop)
  (hD:∀w',Lk (w.alloc (.cells (Dl.cells ⟨4,xn,xtr,xtx,xm,xa,xlen,xcap⟩) 134)) w'->Calls prog 325 #[.slice xa xlen xcap] w' (RetP (fun v w2=>∃na nn nc,v=.slice na nn nc/\nn<=1000000/\w2.cell? ⟨xb,0,none⟩=some (bp mb)/\∀w3,Lk w2 w3->Calls prog 324 #[bp xb,.slice ba bn bc,.slice na nn nc] w3 (RetP (fun v w4=>∃kc cc,v=.func (.func kc) #[] cc/\w4.cell? ⟨xb,0,none⟩=some (bp mb)/\
   ∀w5,Lk w4 w5->Calls prog 326 #[bp mb,.int .i64 (nn:Int),.func (.func kc) #[] cc] w5 (RX xb mb Q)) Q)) Q)):
  Calls prog 293 #[bp xb,.agg (Dl.cells ⟨4,xn,xtr,xtx,xm,xa,xlen,xcap⟩),.slice ba bn bc] w Q:=by
 have HD:=hZ hD;clear hD;go_enter func293,ntmps293
 go_wp2_with (first|(go_at_call 290;refine(qam _).mono ?_;rintro e w2 ⟨rfl,hww⟩;obtain rfl:=hww.symm)|(go_at_call 325;refine(HD.out _ (by exact⟨rfl,rfl,rfl,rfl⟩)).mono ?_;rintro e w2 (⟨ps,rfl,hq⟩|⟨v,rfl,na,nn,nc,rfl,hnn,d0,hk⟩);(exact⟨rfl,hq⟩);have HB:=hZ hk;clear hk;refine Hid.out ?_))
 refine hZ ?_;go_wp2_with (fail)
 go_region_held2 (fun w'=>w'.cell? ⟨xb,0,none⟩=some (bp mb)) (first|(exact d0)|(exact HS1.out)|(exact HS2.out)|go_keep)
  (first
   |(go_at_call 324;refine(HB.out _ (by exact⟨rfl,rfl,rfl,rfl⟩)).mono ?_;rintro e w3 (⟨ps,rfl,hq⟩|⟨v,rfl,kc,cc,rfl,hc,hk⟩);(exact⟨rfl,hq⟩);have HS1:=hZ hc;have HK:=hZ hk;clear hc hk)
   |(go_at_call 326;refine(HK.out _ (by exact⟨rfl,rfl,rfl,rfl⟩)).mono ?_;rintro e w4 (⟨ps,rfl,hq⟩|⟨v,rfl,hc,hq⟩);(exact⟨rfl,hq⟩);have HS2:=hZ hc;have HQ:=hZ hq;clear hc hq))
 all_goals go_wp2
 all_goals exact HQ.out
theorem qiw(xb:Nat)(xk xn:Int)(xtr:Bool)(xtx:ByteArray)(xm:Int)(xa:Option Addr)(xlen xcap:Nat)(ba:Option Addr)(bn bc:Nat)(w:World)(Q:Ending->World->Prop)(h3:xk≠3)(h4:xk≠4)
  (hQ:∀w',Below w.heap.size w w'->Q (.panicked (stopP (stopV 4))) w'):
  Calls prog 293 #[bp xb,.agg (Dl.cells ⟨xk,xn,xtr,xtx,xm,xa,xlen,xcap⟩),.slice ba bn bc] w Q:=by
 have HQ:=hZ hQ;have e3:(xk==3)=false:=by simpa using h3
 have e4:(xk==4)=false:=by simpa using h4
 clear hQ;go_enter func293,ntmps293
 go_wp2_with (first|(go_at_call 290;refine(qax _).mono ?_;rintro e w2 ⟨rfl,o,rfl⟩))
 exact⟨rfl,HQ.out _ ((qab _ _).alloc (by simp) _)⟩
theorem qiv(xb mb:Nat)(xn:Int)(xtr:Bool)(xtx:ByteArray)(xm:Int)(xa:Option Addr)(xlen xcap:Nat)(ba:Option Addr)(bn bc:Nat)(w:World)(Q:Ending->World->Prop)(c0:w.cell? ⟨xb,0,none⟩=some (bp mb))
  (hE:∀w0,Lk (w.alloc (.cells (Dl.cells ⟨3,xn,xtr,xtx,xm,xa,xlen,xcap⟩) 134)) w0->∀w2,Below w0.heap.size w0 w2->∀w3,Lk (w2.alloc (.cells #[.string xtx,.int .i64 xm] 382)) w3->Calls prog 324 #[bp xb,.slice ba bn bc,.slice (some ⟨w2.heap.size,0,none⟩) 1 1] w3 (RetP (fun v w4=>∃kc cc,v=.func (.func kc) #[] cc/\w4.cell? ⟨xb,0,none⟩=some (bp mb)/\w4.heap[w.heap.size]? =some (.cells (Dl.cells ⟨3,xn,xtr,xtx,xm,xa,xlen,xcap⟩) 134 (0,0))/\
   ∀w5,Lk w4 w5->Calls prog 323 #[bp mb,.func (.func kc) #[] cc] w5 (RetP (fun v w6=>w6.cell? ⟨xb,0,none⟩=some (bp mb)/\w6.heap[w.heap.size]? =some (.cells (Dl.cells ⟨3,xn,xtr,xtx,xm,xa,xlen,xcap⟩) 134 (0,0))/\Q (.returned v) w6) Q)) Q)):
  Calls prog 293 #[bp xb,.agg (Dl.cells ⟨3,xn,xtr,xtx,xm,xa,xlen,xcap⟩),.slice ba bn bc] w Q:=by
 have HE:=hZ hE;have l0:=qac c0;have d0:(w.alloc (.cells (Dl.cells ⟨3,xn,xtr,xtx,xm,xa,xlen,xcap⟩) 134)).cell? ⟨xb,0,none⟩=some (bp mb):=qaj c0;have HBox:Hid (∀w':World,w'.heap[w.heap.size]? =some (.cells (Dl.cells ⟨3,xn,xtr,xtx,xm,xa,xlen,xcap⟩) 134 (0,0))->w'.cell? ⟨w.heap.size,0,none⟩=some (.int .i64 3)/\w'.cell? ⟨w.heap.size,1,none⟩=some (.int .i64 xn)/\w'.cell? ⟨w.heap.size,2,none⟩=some (.bool xtr)/\w'.cell? ⟨w.heap.size,3,none⟩=some (.string xtx)/\w'.cell? ⟨w.heap.size,4,none⟩=some (.int .i64 xm)/\w'.cell? ⟨w.heap.size,5,none⟩=some (.slice xa xlen xcap)):=fun w' h=>by
  refine⟨?_,?_,?_,?_,?_,?_⟩ <;> (simp only[World.cell?,h];rfl)
 have hbx:=heap_alloc_new w (.cells (Dl.cells ⟨3,xn,xtr,xtx,xm,xa,xlen,xcap⟩) 134);obtain⟨b0,b1,b2,b3,b4,b5⟩:=HBox.out _ hbx;have HBx:=hZ hbx;clear hE hbx;go_enter func293,ntmps293
 go_wp2_with (fail)
 generalize hW:w.alloc (.cells (Dl.cells ⟨3,xn,xtr,xtx,xm,xa,xlen,xcap⟩) 134)=W at HE d0 b0 b1 b2 b3 b4 b5 HBx|-;clear hW;go_region_held2 (fun w'=>w'.cell? ⟨xb,0,none⟩=some (bp mb)/\w'.cell? ⟨w.heap.size,0,none⟩=some (.int .i64 3)/\w'.cell? ⟨w.heap.size,1,none⟩=some (.int .i64 xn)/\w'.cell? ⟨w.heap.size,2,none⟩=some (.bool xtr)/\w'.cell? ⟨w.heap.size,3,none⟩=some (.string xtx)/\w'.cell? ⟨w.heap.size,4,none⟩=some (.int .i64 xm)/\w'.cell? ⟨w.heap.size,5,none⟩=some (.slice xa xlen xcap))
  (first|(exact⟨d0,b0,b1,b2,b3,b4,b5⟩)|(exact HS1.out)|(exact⟨qaj HS1.out.1,qaj HS1.out.2.1,qaj HS1.out.2.2.1,qaj HS1.out.2.2.2.1,qaj HS1.out.2.2.2.2.1,qaj HS1.out.2.2.2.2.2.1,qaj HS1.out.2.2.2.2.2.2⟩)|(exact HS2.out)|(exact HS3.out)|go_keep)
  (first
   |(go_at_call 296;refine(qbt xn xtr xtx xm xa xlen xcap _).mono ?_;rintro e w2 ⟨rfl,hb⟩;have HS1:=hZ (And.intro ((hb.cell (p:=⟨xb,0,none⟩) (qac d0)).trans d0) (HBox.out w2 ((hb.block _ (Array.getElem?_eq_some_iff.1 HBx.out).1).trans HBx.out)));have HB1:=hZ hb;clear hb)
   |(go_at_call 324;refine(HE.out _ (by exact⟨rfl,rfl,rfl,rfl⟩) _ HB1.out _ (by exact⟨rfl,rfl,rfl,rfl⟩)).mono ?_;rintro e w3 (⟨ps,rfl,hq⟩|⟨v,rfl,kc,cc,rfl,hc,hx,hk⟩);(exact⟨rfl,hq⟩);have HS2:=hZ (And.intro hc (HBox.out _ hx));have HK:=hZ hk;clear hc hx hk)
   |(go_at_call 323;refine(HK.out _ (by exact⟨rfl,rfl,rfl,rfl⟩)).mono ?_;rintro e w4 (⟨ps,rfl,hq⟩|⟨v,rfl,hc,hx,hq⟩);(exact⟨rfl,hq⟩);have HS3:=hZ (And.intro hc (HBox.out _ hx));have HQ:=hZ hq;clear hc hx hq))
 all_goals go_wp2
 all_goals exact HQ.out
end
section
open Sc
def IdRow(w:World)(na:Option Addr)(ids:List (ByteArray×Int)):Prop:=∀i p,ids[i]? =some p->∃g,na=some ⟨g,0,none⟩/\w.cell? ⟨g,i*2,none⟩=some (.string p.1)/\w.cell? ⟨g,i*2+1,none⟩=some (.int .i64 p.2)
abbrev idS(p:ByteArray×Int):Sc.Id:=(p.1.data.toList,p.2)
def Has(ids:List (ByteArray×Int))(t:ByteArray)(m:Int):Bool:=(ids.map idS).contains (t.data.toList,m)
def IdxIs(r:Int)(b:Bool):Prop:=decide (0<=r)=b
theorem qk1{a b:ByteArray}(h:a.data.toList=b.data.toList):a=b:=by
 cases a;cases b;simp only at h;exact congrArg ByteArray.mk (Array.toList_inj.1 h)
theorem qse(ids:List (ByteArray×Int))(na:Option Addr)(nc:Nat)(t:ByteArray)(m:Int)(w:World)(hr:IdRow w na ids)(hn:ids.length<=1000000):
  Calls prog 386 #[.slice na ids.length nc,idV t m] w fun e w'=>∃r:Int,e=.returned (.int .i64 r)/\IdxIs r (Has ids t m)/\Below w.heap.size w w':=by
 have HR:=hZ hr;obtain⟨nn,hnn⟩:∃nn,nn=ids.length:=⟨_,rfl⟩;rw[<-hnn]at hn|-;have HN:=hZ hnn;clear hr hnn;go_enter func386,ntmps386
 go_wp2;go_loopw [8] (fun c wr=>∃(k:Nat),k<=nn/\c=.int .i64 (k:Int)/\((ids.take k).map idS).contains (t.data.toList,m)=false/\Lk (w.alloc (.cells #[.string t,.int .i64 m] 382)) wr) (fun c _=>nn-(intOf c).toNat)
 case atStart=>exact⟨0,Nat.zero_le _,rfl,rfl,⟨rfl,rfl,rfl,rfl⟩⟩
 case round=>
  obtain⟨k,hk,rfl,hno,hl⟩:=hrel;have HNo:=hZ hno;have HL:=hZ hl;have hbx:=heap_alloc_new w (.cells #[.string t,.int .i64 m] 382);have x0:wr.cell? ⟨w.heap.size,0,none⟩=some (.string t):=by simp only[World.cell?,hl.heap,hbx];rfl
  have x1:wr.cell? ⟨w.heap.size,1,none⟩=some (.int .i64 m):=by simp only[World.cell?,hl.heap,hbx];rfl
  clear hno hbx;by_cases hlt:k<nn
  ·have hkl:k<ids.length:=by rw[<-HN.out];exact hlt
   have hp:ids[k]? =some ids[k]:=List.getElem?_eq_getElem hkl;obtain⟨⟨pt,pm⟩,hpe⟩:∃p,p=ids[k]:=⟨_,rfl⟩;rw[<-hpe]at hp;obtain⟨g,rfl,r0,r1⟩:=HR.out k _ hp;have r0':wr.cell? ⟨g,k*2,none⟩=some (.string pt):=(qas hl _).trans (qaj r0);have r1':wr.cell? ⟨g,k*2+1,none⟩=some (.int .i64 pm):=(qas hl _).trans (qaj r1);have htk:ids.take (k+1)=ids.take k++[(pt,pm)]:=by rw[List.take_add_one,hp];rfl
   have HTk:=hZ htk;have HMem:Hid ((pt,pm)∈ids):=List.mem_of_getElem? hp;have hkl':(k:Int)<(nn:Int):=by omega
   clear hp hpe r0 r1 hl htk;by_cases hid:idS (pt,pm)=(t.data.toList,m)
   ·have HId:=hZ hid;simp only[idS,Prod.mk.injEq]at hid;obtain⟨h1,rfl⟩:=hid;obtain rfl:=qk1 h1;clear h1;go_wp2;go_region
    go_wp2;go_ret;refine⟨k,rfl,?_,bl1 ⟨HL.out.heap,HL.out.tape,HL.out.os,HL.out.output⟩⟩;have:Has ids pt pm=true:=by
     unfold Has;rw[List.contains_iff_mem];exact List.mem_map.2 ⟨_,HMem.out,rfl⟩
    rw[this];simp[IdxIs]
   ·have HId:=hZ hid;have hcase:(t=pt/\¬m=pm)\/¬t.toList=pt.toList:=by
     by_cases h1:t.toList=pt.toList
     ·rw[ByteArray.toList_eq,ByteArray.toList_eq]at h1;left;refine⟨qk1 h1,fun h2=>hid ?_⟩;simp[idS,h1,h2]
     ·exact .inr h1
    clear hid;have fin:((ids.take (k+1)).map idS).contains (t.data.toList,m)=false:=by
     rw[HTk.out,List.map_append];have h1:=HNo.out;have h2:=HId.out;simp only[List.contains_eq_mem,decide_eq_false_iff_not,List.mem_append,not_or]at h1|-;exact⟨h1,fun h=>by simp only[List.map_cons,List.map_nil,List.mem_singleton]at h;exact h2 h.symm⟩
    have HFin:=hZ fin;clear fin HTk HId HNo;rcases hcase with⟨rfl,hm⟩|ht;all_goals
     go_wp2;go_region
     go_wp2;go_roundw
     case rel=>exact⟨k+1,by omega,by go_num,HFin.out,⟨HL.out.heap,HL.out.tape,HL.out.os,HL.out.output⟩⟩
     case measure=>simp[intOf];omega
  ·have hke:k=nn:=by omega
   have htk:ids.take k=ids:=by rw[hke,HN.out];simp
   have hno:=HNo.out;rw[htk]at hno;have HNo2:=hZ hno;have hnl:¬(k:Int)<(nn:Int):=by omega
   clear hke htk hno hl;go_wp2;go_ret;exact⟨-1,rfl,by unfold Has;rw[HNo2.out];rfl,bl1 HL.out⟩
theorem qjt(ids:List (ByteArray×Int))(na:Option Addr)(nc:Nat)(t:ByteArray)(m:Int)(w:World)(hr:IdRow w na ids)(hn:ids.length<=1000000):
  Calls prog 362 #[.slice na ids.length nc,idV t m] w fun e w'=>e=.returned (.bool (Has ids t m))/\Below w.heap.size w w':=by
 have hr':IdRow (w.alloc (.cells #[.string t,.int .i64 m] 382)) na ids:=fun i p hp=>by
  obtain⟨g,h1,h2,h3⟩:=hr i p hp;exact⟨g,h1,qaj h2,qaj h3⟩
 have HI:=hZ (qse ids na nc t m _ hr' hn);clear hr hr';go_enter func362,ntmps362
 go_wp2_with (first|(go_at_call 386;refine HI.out.mono ?_;rintro e w2 ⟨r,rfl,hd,hb⟩;have HD:=hZ hd;have HB:=hZ hb;clear hd hb))
 go_ret;exact⟨by rw[<-(HD.out:decide (0<=r)=_)];rfl,(qab _ _).trans (HB.out.mono (by simp))⟩
end
section
open Sc
theorem info382:(prog.info? 382).map (fun i=>(i.zero,i.size,i.bytes))=some (some (.agg #[.string ⟨#[]⟩,.int .i64 0]),2,24):=by kernel_rfl
def idCells(ids:List (ByteArray×Int)):List Value:=ids.flatMap fun p=>[.string p.1,.int .i64 p.2]
theorem qmg(l:List (ByteArray×Int))(k:Nat)(p:ByteArray×Int)(h:l[k]? =some p):(idCells l)[2*k]? =some (.string p.1)/\(idCells l)[2*k+1]? =some (.int .i64 p.2):=by
 induction l generalizing k with
 |nil=>simp at h
 |cons a r ih=>
  cases k with
  |zero=>simp at h;subst h;simp[idCells]
  |succ k=>
   have:=ih k (by simpa using h);simp only[idCells,List.flatMap_cons]at this|-;rw[show 2*(k+1)=2*k+2 from by omega,show 2*k+2+1=2*k+1+2 from by omega];simpa using this
theorem qkq{w:World}{lo:Nat}{na:Option Addr}{nc:Nat}{ids:List (ByteArray×Int)}(h:w.ownsRow lo 382 2 (.slice na ids.length nc) ids.length (idCells ids)):IdRow w na ids:=by
 intro i p hp;rcases h.2 with⟨h1,h2⟩|⟨g,cap,cur,h1,hb,hg,hn,hm,hsz,htk⟩
 ·have:=(List.getElem?_eq_some_iff.1 hp).1;omega
 ·cases h1;obtain⟨a,b⟩:=qmg ids i p hp;have cc:∀k v,(idCells ids)[k]? =some v->w.cell? ⟨g,k,none⟩=some v:=fun k v hk=>by
   rw[<-htk,List.getElem?_take]at hk;split at hk
   ·simp only[World.cell?,hg];simpa using hk
   ·cases hk
  exact⟨g,rfl,cc _ _ (by rw[Nat.mul_comm];exact a),cc _ _ (by rw[Nat.mul_comm];exact b)⟩
theorem qmf{l:List Dt}{is:List Sc.Id}:idsOf l=some is->is.length=l.length:=by
 induction l generalizing is with
 |nil=>intro h;cases h;rfl
 |cons d r ih=>
  intro h;cases d with
  |sym t m=>
   simp only[idsOf,Option.map_eq_some_iff]at h;obtain⟨js,h1,rfl⟩:=h;simp[ih h1]
  |_=>simp[idsOf]at h
theorem qeu(a b:List Dt):idsOf (a++b)=(idsOf a).bind fun x=>(idsOf b).map fun y=>x++y:=by
 induction a with
 |nil=>simp[idsOf]
 |cons d r ih=>
  cases d with
  |sym t m=>
   simp only[List.cons_append,idsOf,ih];cases idsOf r with
   |none=>rfl
   |some x=>cases idsOf b <;> simp
  |_=>simp[idsOf]
theorem qcp(a:List Sc.Id)(i:Sc.Id):Sc.distinct (a++[i])=(Sc.distinct a&&!a.contains i):=by
 induction a with
 |nil=>simp[Sc.distinct]
 |cons j r ih=>
  simp only[List.cons_append,Sc.distinct,ih,List.contains_eq_mem,List.mem_append,List.mem_singleton];by_cases h1:j∈r <;> by_cases h2:i∈r <;> by_cases h3:i=j <;> simp[h1,h2,h3] <;> (try (intro h;exact absurd h.symm h3)) <;> (try (intro _ h;exact absurd h.symm h3)) <;> (try (subst h3;simp_all))
theorem qco(a b:List Sc.Id)(h:Sc.distinct (a++b)=true):Sc.distinct a=true:=by
 induction a with
 |nil=>rfl
 |cons j r ih=>
  simp only[List.cons_append,Sc.distinct,Bool.and_eq_true,Bool.not_eq_true',List.contains_eq_mem,decide_eq_false_iff_not,List.mem_append,not_or]at h|-;exact⟨h.1.1,ih h.2⟩
def parsOf(l:List Dt):Option (List Sc.Id):=(idsOf l).bind fun is=>if Sc.distinct is then some is else none
theorem qix{l:List Dt}{k:Nat}{is:List Sc.Id}{t:Bs}{m:Int}(hk:l[k]? =some (.sym t m))(hp:parsOf (l.take k)=some is):parsOf (l.take (k+1))=if is.contains (t,m)then none else some (is++[(t,m)]):=by
 have ht:l.take (k+1)=l.take k++[.sym t m]:=by rw[List.take_add_one,hk];rfl
 unfold parsOf at hp|-;rw[ht,qeu];cases h:idsOf (l.take k)with
 |none=>rw[h]at hp;cases hp
 |some x=>
  rw[h]at hp;simp only[Option.bind_some]at hp|-;split at hp
  ·rename_i hd;obtain rfl:x=is:=by simpa using hp
   simp only[idsOf,Option.map_some,Option.bind_some];rw[qcp,hd];by_cases hc:x.contains (t,m)=true <;> simp
  ·cases hp
theorem qeg{l:List Dt}{k:Nat}(h:parsOf (l.take k)=none):parsOf l=none:=by
 unfold parsOf at h|-;rw[<-List.take_append_drop k l,qeu];cases hx:idsOf (l.take k)with
 |none=>rfl
 |some x=>
  rw[hx]at h;simp only[Option.bind_some]at h|-;cases hy:idsOf (l.drop k)with
  |none=>rfl
  |some y=>
   simp only[Option.map_some,Option.bind_some];split
   ·rename_i hd;rw[qco _ _ hd]at h;simp at h
   ·rfl
theorem qlt{l:List Dt}{k:Nat}{d:Dt}(hk:l[k]? =some d)(hd:∀t m,d≠.sym t m):parsOf l=none:=by
 have ht:l.take (k+1)=l.take k++[d]:=by rw[List.take_add_one,hk];rfl
 refine qeg (k:=k+1) ?_;unfold parsOf;rw[ht,qeu];have:idsOf [d]=none:=by
  cases d with
  |sym t m=>exact absurd rfl (hd t m)
  |_=>rfl
 rw[this];cases idsOf (l.take k) <;> rfl
def DistP(l:List Dt)(w:World)(e:Ending)(w':World):Prop:=Below w.heap.size w w'/\match parsOf l with
 |some is=>∃na nc ids,e=.returned (.slice na is.length nc)/\ids.map idS=is/\w'.ownsRow w.heap.size 382 2 (.slice na is.length nc) is.length (idCells ids)
 |none=>e=.panicked (stopP (stopV 4))
theorem qjq(l:List Dt)(es:List Dl)(xa:Option Addr)(xlen xcap:Nat)(w:World)(hl:l.length=es.length)(hlen:xlen=es.length)(h100:xlen<=1000000)
  (hsym:∀(i:Nat) (d:Dt) (e:Dl),l[i]? =some d->es[i]? =some e->(e.k=3/\d=.sym e.tx.data.toList e.m)\/(e.k≠3/\∀t m,d≠.sym t m))
  (hrow:∀(i j:Nat) (x:Dl),es[i]? =some x->j<6->∃g o,xa=some ⟨g,o,none⟩/\g<w.heap.size/\w.cell? ⟨g,o+i*6+j,none⟩=x.cells[j]?):
  Calls prog 325 #[.slice xa xlen xcap] w (DistP l w):=by
 obtain⟨i0,hi,hz0',hz1',hz2'⟩:=info_parts info382;have HL:=hZ hl;have HLen:=hZ hlen;have HSym:=hZ hsym;have HRow:=hZ hrow;clear hl hlen hsym hrow;go_enter func325,ntmps325
 go_wp2;go_loopw [9,3] (fun c s wr=>∃(k:Nat) (na:Option Addr) (nc:Nat) (ids:List (ByteArray×Int)),k<=xlen/\c=.int .i64 (k:Int)/\ids.length=k/\s=.slice na k nc/\parsOf (l.take k)=some (ids.map idS)/\wr.ownsRow w.heap.size 382 2 (.slice na k nc) k (idCells ids)/\Below w.heap.size w wr) (fun c _ _=>xlen-(intOf c).toNat)
 case atStart=>exact⟨0,none,0,[],Nat.zero_le _,rfl,rfl,rfl,rfl,⟨rfl,.inl ⟨rfl,rfl⟩⟩,Below.refl _ _⟩
 case round=>
  obtain⟨k,na,nc,ids,hk,rfl,hil,rfl,hps,hown,hbl⟩:=hrel;have HIl:=hZ hil;have HPs:=hZ hps;have HOwn:=hZ hown;have HB:=hZ hbl;clear hil hps hown hbl;by_cases hlt:k<xlen
  ·have hke:k<es.length:=by rw[<-HLen.out];exact hlt
   have hkl:k<l.length:=by rw[HL.out];exact hke
   obtain⟨⟨yk,yn,ytr,ytx,ym,ya,ylen,ycap⟩,hy⟩:∃y,y=es[k]:=⟨_,rfl⟩;have hey:es[k]? =some ⟨yk,yn,ytr,ytx,ym,ya,ylen,ycap⟩:=by rw[hy];exact List.getElem?_eq_getElem hke
   obtain⟨g,o,rfl,hgw,c00⟩:=HRow.out k 0 _ hey (by omega);have cell:∀j,j<6->wr.cell? ⟨g,o+k*6+j,none⟩=(Dl.cells ⟨yk,yn,ytr,ytx,ym,ya,ylen,ycap⟩)[j]?:=fun j hj=>by
    obtain⟨g',o',e1,e2,e3⟩:=HRow.out k j _ hey hj;cases e1;exact(HB.out.cell (p:=⟨g,o+k*6+j,none⟩) hgw).trans e3
   have c0:wr.cell? ⟨g,o+k*6,none⟩=some (.int .i64 yk):=cell 0 (by omega);have c1:wr.cell? ⟨g,o+k*6+1,none⟩=some (.int .i64 yn):=cell 1 (by omega);have c2:wr.cell? ⟨g,o+k*6+2,none⟩=some (.bool ytr):=cell 2 (by omega);have c3:wr.cell? ⟨g,o+k*6+3,none⟩=some (.string ytx):=cell 3 (by omega);have c4:wr.cell? ⟨g,o+k*6+4,none⟩=some (.int .i64 ym):=cell 4 (by omega);have c5:wr.cell? ⟨g,o+k*6+5,none⟩=some (.slice ya ylen ycap):=cell 5 (by omega);have hlk:=List.getElem?_eq_getElem hkl;have hsy:=HSym.out k _ _ hlk hey;clear cell hy c00 hey;have hkl':(k:Int)<(xlen:Int):=by omega
   rcases hsy with⟨h3,hsy⟩|⟨h3,hsy⟩
   ·obtain rfl:yk=3:=h3;rw[hsy]at hlk;have HSt:=hZ (qix hlk HPs.out);have hhas:(ids.map idS).contains (ytx.data.toList,ym)=Has ids ytx ym:=rfl;have HHas:=hZ hhas;clear hlk hsy hhas;go_wp2_with (first|(go_at_call 296;refine(qbt yn ytr ytx ym ya ylen ycap _).mono ?_;rintro e w2 ⟨rfl,hb⟩;refine Hid.out ?_))
    have hb2:Below w.heap.size w w2:=HB.out.trans (((qab _ _).trans (hb.mono (by simp))).mono HB.out.size);have hown2:w2.ownsRow w.heap.size 382 2 (.slice na k nc) k (idCells ids):=by
     refine⟨HOwn.out.1,?_⟩;rcases HOwn.out.2 with h|⟨g2,cap2,cur2,hv,hbb,hg,hr⟩
     ·exact .inl h
     ·exact .inr ⟨g2,cap2,cur2,hv,hbb,by
       have e1:=Below.heap_alloc wr (.cells #[.int .i64 3,.int .i64 yn,.bool ytr,.string ytx,.int .i64 ym,.slice ya ylen ycap] 134) g2 (Array.getElem?_eq_some_iff.1 hg).1;rw[hb.block _ (by simp;have:=(Array.getElem?_eq_some_iff.1 hg).1;omega),e1];exact hg,hr⟩
    have HB2:=hZ hb2;have HOwn2:=hZ hown2;have HC:Hid (∀w',Lk (w2.alloc (.cells #[.string ytx,.int .i64 ym] 382)) w'->Calls prog 362 #[.slice na k nc,.agg #[.string ytx,.int .i64 ym]] w' fun e w3=>e=.returned (.bool (Has ids ytx ym))/\Below w'.heap.size w' w3):=fun w' hw=>by
     have hrr:IdRow w' na ids:=by
      have h1:w2.ownsRow w.heap.size 382 2 (.slice na ids.length nc) ids.length (idCells ids):=by rw[HIl.out];exact HOwn2.out
      intro i p hp;obtain⟨g5,q1,q2,q3⟩:=qkq h1 i p hp;exact⟨g5,q1,(qas hw _).trans (qaj q2),(qas hw _).trans (qaj q3)⟩
     have:=qjt ids na nc ytx ym w' hrr (by rw[HIl.out];omega);rw[HIl.out]at this;exact this
    have hbox:=heap_alloc_new w2 (.cells #[.string ytx,.int .i64 ym] 382);have HBox:=hZ hbox;clear hb hb2 hown2 hbox HOwn;cases hh:Has ids ytx ym with
    |true=>
     rw[hh]at HC;have HH:=hZ hh;clear hh;refine hZ ?_;go_wp2_with (first|(go_at_call 362;refine(HC.out _ (by exact⟨rfl,rfl,rfl,rfl⟩)).mono ?_;rintro e w3 ⟨rfl,hb⟩;have HB3:=hZ hb;clear hb)|(go_at_call 290;refine(qax _).mono ?_;rintro e w4 ⟨rfl,o,rfl⟩))
     have hb3:Below w.heap.size w w3:=HB2.out.trans (((qab _ _).trans (HB3.out.mono (by simp))).mono HB2.out.size);refine⟨rfl,hb3.trans ((qab _ _).mono hb3.size),?_⟩;have:parsOf l=none:=qeg (k:=k+1) (by rw[HSt.out,HHas.out,HH.out];rfl);rw[this]
    |false=>
     rw[hh]at HC;have HH:=hZ hh;clear hh;refine hZ ?_;go_wp2_with (first|(go_at_call 362;refine(HC.out _ (by exact⟨rfl,rfl,rfl,rfl⟩)).mono ?_;rintro e w3 ⟨rfl,hb⟩;refine Hid.out ?_))
     have hb3:Below w.heap.size w w3:=HB2.out.trans (((qab _ _).trans (hb.mono (by simp))).mono HB2.out.size);have hbx3:w3.heap[w2.heap.size]? =some (.cells #[.string ytx,.int .i64 ym] 382 (0,0)):=(hb.block _ (by simp)).trans HBox.out;have n0:w3.cell? ⟨w2.heap.size,0,none⟩=some (.string ytx):=by simp only[World.cell?,hbx3];rfl
     have n1:w3.cell? ⟨w2.heap.size,1,none⟩=some (.int .i64 ym):=by simp only[World.cell?,hbx3];rfl
     have hown3:w3.ownsRow w.heap.size 382 2 (.slice na k nc) k (idCells ids):=by
      refine⟨HOwn2.out.1,?_⟩;rcases HOwn2.out.2 with h|⟨g2,cap2,cur2,hv,hbb,hg,hr⟩
      ·exact .inl h
      ·exact .inr ⟨g2,cap2,cur2,hv,hbb,by
        have e0:=(Array.getElem?_eq_some_iff.1 hg).1;rw[hb.block _ (by simp;omega),Below.heap_alloc _ _ _ e0];exact hg,hr⟩
     have HB3:=hZ hb3;have HOwn3:=hZ hown3;clear hb hb3 hbx3 hown3 HC HOwn2 HBox;refine hZ ?_;go_wp2_with (first|(go_at_call 290;refine(qam _).mono ?_;rintro e w4 ⟨rfl,hww⟩;obtain rfl:=hww.symm)|(at_builtin;refine wpList_append_lies _ rfl _ _ 416 rfl w.heap.size 382 i0 (.agg #[.string ⟨#[]⟩,.int .i64 0]) 2 24 underlying416 hi hz0' hz1' hz2' rfl (by decide) _ _ _ rfl (HOwn3.out.alloc _) ⟨w3.heap.size,0,none⟩ 1 1 [.string ytx,.int .i64 ym] rfl rfl ?c1 ?c2 (by decide) ?c3 ?c4 ?c5 (w3.heap.size+1) ?c6 ?_))
     case c1=>exact World.news_of_block (cs:=#[.string ytx,.int .i64 ym]) (by have:=heap_alloc_new w3 (.cells #[.string ytx,.int .i64 ym] 382);simpa using this)
     case c2=>intro u hu;simp at hu;rcases hu with rfl|rfl <;> rfl
     case c3=>unfold maxLen;omega
     case c4=>omega
     case c5=>have:=HB3.out.size;simp;omega
     case c6=>simp
     intro g4 cap4 w4 hown4 hgrow4 hat4 hlt4;refine Hid.out ?_;have hg3:w3.grownBy w4 (Value.slice na k nc).ownBlock:=qbf hgrow4;have hb4:Below w.heap.size w w4:=⟨hg3.os.trans HB3.out.os,hg3.tape.trans HB3.out.tape,hg3.output.trans HB3.out.output,Nat.le_trans HB3.out.size hg3.size,fun j hj=>by
      rw[hg3.block j (Nat.lt_of_lt_of_le hj HB3.out.size) (fun e=>by have:=(HOwn3.out.lt j e.symm).1;omega)];exact HB3.out.block j hj⟩
     have HB4:=hZ hb4;have HOwn4:=hZ hown4;clear hown4 hgrow4 hat4 hlt4 hg3 hb4 HB3 HOwn3;refine hZ ?_;go_wp2;go_roundw
     case rel=>
      refine⟨k+1,some ⟨g4,0,none⟩,cap4,ids++[(ytx,ym)],by omega,by go_num,by simp[HIl.out],rfl,?_,?_,HB4.out⟩
      ·rw[HSt.out,HHas.out,HH.out];simp
      ·have:=HOwn4.out;simpa[idCells]using this
     case measure=>simp[intOf];omega
   ·have hnot:parsOf l=none:=qlt hlk hsy;have HNot:=hZ hnot;clear hlk hsy hnot;go_wp2_with (first|(go_at_call 296;refine(qgk yk yn ytr ytx ym ya ylen ycap _ h3).mono ?_;rintro e w2 ⟨rfl,hb⟩))
    refine⟨rfl,HB.out.trans (((qab _ _).trans (hb.mono (by simp))).mono HB.out.size),?_⟩;rw[HNot.out]
  ·have hke:k=xlen:=by omega
   have htk:l.take k=l:=by rw[hke,HLen.out,<-HL.out];simp
   have hps:=HPs.out;rw[htk]at hps;have HPs2:=hZ hps;have hnl:¬(k:Int)<(xlen:Int):=by omega
   clear hke htk hps;go_wp2;go_ret;refine⟨HB.out,?_⟩;rw[HPs2.out];exact⟨na,nc,ids,by simp[HIl.out],rfl,by simpa[HIl.out]using HOwn.out⟩
end
end Go.Proofs.YtldaocpojcfljaaGreatDoor
