import Derived.Test.YtldaocpojcfljaaGreatDoorC35
set_option maxRecDepth 100000
set_option maxHeartbeats 4000000
namespace Go.Proofs.YtldaocpojcfljaaGreatDoor
open Tryz hiding parts
open Go.RowKit Go.Shelf
section
open Sc
theorem qde (xb n xcap:Nat) (xa:Option Addr) (w:World) (Q:Ending→World→Prop) (hn:n<3)
  (hQ:∀w',Below w.heap.size w w'→Q (.panicked (stopP (stopV 4))) w'):
  Calls prog 233 #[bp xb,.slice xa n xcap] w Q:=by
 have HQ:=hZ hQ
 have hc:n=0∨n=1∨n=2:=by omega
 clear hQ hn
 rcases hc with rfl|rfl|rfl
 all_goals
  go_enter func233,ntmps233
  go_wp2_with (first|(go_at_call 290;refine(qax _).mono ?_;rintro e w2 ⟨rfl,o,rfl⟩))
  exact⟨rfl,HQ.out _ (qab _ _)⟩
theorem qfc (xb g o n xcap:Nat) (yk yn:Int) (ytr:Bool) (ytx:ByteArray) (ym:Int) (ya:Option Addr) (ylen ycap:Nat) (w:World) (Q:Ending→World→Prop) (a0:w.cell? ⟨g,o+6,none⟩=some (.int .i64 yk)) (a1:w.cell? ⟨g,o+6+1,none⟩=some (.int .i64 yn)) (a2:w.cell? ⟨g,o+6+2,none⟩=some (.bool ytr)) (a3:w.cell? ⟨g,o+6+3,none⟩=some (.string ytx)) (a4:w.cell? ⟨g,o+6+4,none⟩=some (.int .i64 ym)) (a5:w.cell? ⟨g,o+6+5,none⟩=some (.slice ya ylen ycap)) (hk:yk≠4) (hn:n+4≤1000000)
  (hQ:∀w',Below w.heap.size w w'→Q (.panicked (stopP (stopV 4))) w'):
  Calls prog 233 #[bp xb,.slice (some ⟨g,o,none⟩) (n+4) xcap] w Q:=by
 have HQ:=hZ hQ
 have hk1:(yk==4)=false:=by simpa using hk
 have hk2:(yk !=4)=true:=by simpa using hk
 have h3:(3:Int)≤(n:Int)+4:=by omega
 have h1:(1:Int)<(n:Int)+4:=by omega
 have h4:((n:Int)+4==3)=false:=by simp;omega
 clear hQ
 go_enter func233,ntmps233
 go_wp2_with (first|(go_at_call 290;refine(qam _).mono ?_;rintro e w2 ⟨rfl,hww⟩;obtain rfl:=hww.symm)|(go_at_call 290;refine(qax _).mono ?_;rintro e w2 ⟨rfl,o,rfl⟩))
 exact⟨rfl,HQ.out _ ((qab _ _).alloc (by simp) _)⟩
theorem qgp (xb g o n xcap:Nat) (yn:Int) (ytr:Bool) (ytx:ByteArray) (ym:Int) (ya:Option Addr) (ycap:Nat) (w:World) (Q:Ending→World→Prop) (a0:w.cell? ⟨g,o+6,none⟩=some (.int .i64 4)) (a1:w.cell? ⟨g,o+6+1,none⟩=some (.int .i64 yn)) (a2:w.cell? ⟨g,o+6+2,none⟩=some (.bool ytr)) (a3:w.cell? ⟨g,o+6+3,none⟩=some (.string ytx)) (a4:w.cell? ⟨g,o+6+4,none⟩=some (.int .i64 ym)) (a5:w.cell? ⟨g,o+6+5,none⟩=some (.slice ya 0 ycap)) (hn:n+3≤1000000)
  (hQ:∀w',Below w.heap.size w w'→Q (.panicked (stopP (stopV 4))) w'):
  Calls prog 233 #[bp xb,.slice (some ⟨g,o,none⟩) (n+3) xcap] w Q:=by
 have HQ:=hZ hQ
 have h3:(3:Int)≤(n:Int)+3:=by omega
 have h1:(1:Int)<(n:Int)+3:=by omega
 clear hQ
 go_enter func233,ntmps233
 go_wp2_with (first|(go_at_call 290;refine(qam _).mono ?_;rintro e w2 ⟨rfl,hww⟩;obtain rfl:=hww.symm)|(go_at_call 290;refine(qax _).mono ?_;rintro e w2 ⟨rfl,o,rfl⟩))
 exact⟨rfl,HQ.out _ ((qab _ _).alloc (by simp) _)⟩
theorem qgo (xb mb g o xcap:Nat) (yk yn:Int) (ytr:Bool) (ytx:ByteArray) (ym:Int) (ya:Option Addr) (ylen ycap:Nat) (zk zn:Int) (ztr:Bool) (ztx:ByteArray) (zm:Int) (za:Option Addr) (zlen zcap:Nat) (w:World) (Q:Ending→World→Prop) (a0:w.cell? ⟨g,o+6,none⟩=some (.int .i64 yk)) (a1:w.cell? ⟨g,o+6+1,none⟩=some (.int .i64 yn)) (a2:w.cell? ⟨g,o+6+2,none⟩=some (.bool ytr)) (a3:w.cell? ⟨g,o+6+3,none⟩=some (.string ytx)) (a4:w.cell? ⟨g,o+6+4,none⟩=some (.int .i64 ym)) (a5:w.cell? ⟨g,o+6+5,none⟩=some (.slice ya ylen ycap)) (hk:yk≠4)
  (hD:∀w',Lk (w.alloc (.cells (Dl.cells ⟨yk,yn,ytr,ytx,ym,ya,ylen,ycap⟩) 134)) w'→Calls prog 291 #[bp xb,.agg (Dl.cells ⟨yk,yn,ytr,ytx,ym,ya,ylen,ycap⟩)] w' (RetP (fun v w2=>∃nm,v=.string nm∧(w2.cell? ⟨xb,0,none⟩=some (bp mb)∧w2.cell? ⟨g,o+12,none⟩=some (.int .i64 zk)∧w2.cell? ⟨g,o+12+1,none⟩=some (.int .i64 zn)∧w2.cell? ⟨g,o+12+2,none⟩=some (.bool ztr)∧w2.cell? ⟨g,o+12+3,none⟩=some (.string ztx)∧w2.cell? ⟨g,o+12+4,none⟩=some (.int .i64 zm)∧w2.cell? ⟨g,o+12+5,none⟩=some (.slice za zlen zcap))∧
   ∀w3,Lk w2 w3→Calls prog 236 #[bp xb,.agg (Dl.cells ⟨zk,zn,ztr,ztx,zm,za,zlen,zcap⟩)] w3 (RetP (fun u w4=>∃kc cc,u=.func (.func kc) #[] cc∧(w4.cell? ⟨xb,0,none⟩=some (bp mb)∧w4.cell? ⟨g,o+12,none⟩=some (.int .i64 zk)∧w4.cell? ⟨g,o+12+1,none⟩=some (.int .i64 zn)∧w4.cell? ⟨g,o+12+2,none⟩=some (.bool ztr)∧w4.cell? ⟨g,o+12+3,none⟩=some (.string ztx)∧w4.cell? ⟨g,o+12+4,none⟩=some (.int .i64 zm)∧w4.cell? ⟨g,o+12+5,none⟩=some (.slice za zlen zcap))∧
    ∀w5,Lk w4 w5→Calls prog 292 #[bp mb,.string nm,.func (.func kc) #[] cc] w5 (RetP (fun u w6=>(w6.cell? ⟨xb,0,none⟩=some (bp mb)∧w6.cell? ⟨g,o+12,none⟩=some (.int .i64 zk)∧w6.cell? ⟨g,o+12+1,none⟩=some (.int .i64 zn)∧w6.cell? ⟨g,o+12+2,none⟩=some (.bool ztr)∧w6.cell? ⟨g,o+12+3,none⟩=some (.string ztx)∧w6.cell? ⟨g,o+12+4,none⟩=some (.int .i64 zm)∧w6.cell? ⟨g,o+12+5,none⟩=some (.slice za zlen zcap))∧Q (.returned u) w6) Q)) Q)) Q)):
  Calls prog 233 #[bp xb,.slice (some ⟨g,o,none⟩) 3 xcap] w Q:=by
 have HD:=hZ hD
 have hk1:(yk==4)=false:=by simpa using hk
 have hk2:(yk !=4)=true:=by simpa using hk
 clear hD
 go_enter func233,ntmps233
 go_wp2_with (first|(go_at_call 290;refine(qam _).mono ?_;rintro e w2 ⟨rfl,hww⟩;obtain rfl:=hww.symm)|(go_at_call 291;refine(HD.out _ (by exact⟨rfl,rfl,rfl,rfl⟩)).mono ?_;rintro e w2 (⟨ps,rfl,hq⟩|⟨v,rfl,nm,rfl,hS,hE⟩);(exact⟨rfl,hq⟩);refine Hid.out ?_))
 have HE:=hZ hE
 have HS0:=hZ hS
 obtain⟨d0,z0,z1,z2,z3,z4,z5⟩:=hS
 clear hE HD a0 a1 a2 a3 a4 a5
 refine hZ ?_
 go_wp2_with (fail)
 go_region_held2 (fun w'=>w'.cell? ⟨xb,0,none⟩=some (bp mb)∧w'.cell? ⟨g,o+12,none⟩=some (.int .i64 zk)∧w'.cell? ⟨g,o+12+1,none⟩=some (.int .i64 zn)∧w'.cell? ⟨g,o+12+2,none⟩=some (.bool ztr)∧w'.cell? ⟨g,o+12+3,none⟩=some (.string ztx)∧w'.cell? ⟨g,o+12+4,none⟩=some (.int .i64 zm)∧w'.cell? ⟨g,o+12+5,none⟩=some (.slice za zlen zcap)) (first|(exact HS0.out)|(exact HS1.out)|(exact HS2.out)|go_keep)
  (first
   |(go_at_call 236;refine(HE.out _ (by exact⟨rfl,rfl,rfl,rfl⟩)).mono ?_;rintro e w3 (⟨ps,rfl,hq⟩|⟨v,rfl,kc,cc,rfl,hc,hk⟩);(exact⟨rfl,hq⟩);have HS1:=hZ hc;have HK:=hZ hk;clear hc hk)
   |(go_at_call 292;refine(HK.out _ (by exact⟨rfl,rfl,rfl,rfl⟩)).mono ?_;rintro e w4 (⟨ps,rfl,hq⟩|⟨v,rfl,hc,hq⟩);(exact⟨rfl,hq⟩);have HS2:=hZ hc;have HQ:=hZ hq;clear hc hq))
 all_goals go_wp2
 all_goals exact HQ.out
theorem qfd (xb mb g o n xcap gt ot tn:Nat) (yn:Int) (ytr:Bool) (ytx:ByteArray) (ym:Int) (ycap:Nat) (zk zn:Int) (ztr:Bool) (ztx:ByteArray) (zm:Int) (za:Option Addr) (zlen zcap:Nat) (w:World) (Q:Ending→World→Prop) (hn:n+3≤1000000) (hcp:n+3≤xcap) (htc:tn+1≤ycap) (htn:tn+1≤1000000) (a0:w.cell? ⟨g,o+6,none⟩=some (.int .i64 4)) (a1:w.cell? ⟨g,o+6+1,none⟩=some (.int .i64 yn)) (a2:w.cell? ⟨g,o+6+2,none⟩=some (.bool ytr)) (a3:w.cell? ⟨g,o+6+3,none⟩=some (.string ytx)) (a4:w.cell? ⟨g,o+6+4,none⟩=some (.int .i64 ym)) (a5:w.cell? ⟨g,o+6+5,none⟩=some (.slice (some ⟨gt,ot,none⟩) (tn+1) ycap)) (b0:w.cell? ⟨gt,ot,none⟩=some (.int .i64 zk)) (b1:w.cell? ⟨gt,ot+1,none⟩=some (.int .i64 zn)) (b2:w.cell? ⟨gt,ot+2,none⟩=some (.bool ztr)) (b3:w.cell? ⟨gt,ot+3,none⟩=some (.string ztx)) (b4:w.cell? ⟨gt,ot+4,none⟩=some (.int .i64 zm)) (b5:w.cell? ⟨gt,ot+5,none⟩=some (.slice za zlen zcap))
  (hD:∀w',Lk (w.alloc (.cells (Dl.cells ⟨4,yn,ytr,ytx,ym,some ⟨gt,ot,none⟩,tn+1,ycap⟩) 134)) w'→Calls prog 291 #[bp xb,.agg (Dl.cells ⟨zk,zn,ztr,ztx,zm,za,zlen,zcap⟩)] w' (RetP (fun v w2=>∃nm,v=.string nm∧w2.cell? ⟨xb,0,none⟩=some (bp mb)∧w2.heap[w.heap.size]? =some (.cells (Dl.cells ⟨4,yn,ytr,ytx,ym,some ⟨gt,ot,none⟩,tn+1,ycap⟩) 134 (0,0))∧
   ∀w3,Below w2.heap.size w2 w3→Calls prog 293 #[bp xb,.agg (Dl.cells ⟨4,0,false,⟨#[]⟩,0,tlD gt ot ycap 1,tn,ycap-1⟩),.slice (tlD g o xcap 2) (n+1) (xcap-2)] w3 (RetP (fun u w4=>∃kc cc,u=.func (.func kc) #[] cc∧w4.cell? ⟨xb,0,none⟩=some (bp mb)∧(∀b,w2.heap.size≤b→b<w3.heap.size→w4.heap[b]? =w3.heap[b]?)∧
    ∀w5,Lk w4 w5→Calls prog 292 #[bp mb,.string nm,.func (.func kc) #[] cc] w5 (RetP (fun u w6=>w6.cell? ⟨xb,0,none⟩=some (bp mb)∧(∀b,w2.heap.size≤b→b<w3.heap.size→w6.heap[b]? =w3.heap[b]?)∧Q (.returned u) w6) Q)) Q)) Q)):
  Calls prog 233 #[bp xb,.slice (some ⟨g,o,none⟩) (n+3) xcap] w Q:=by
 have hsl:∀w,(Instr.slice 132 (.slice (some ⟨g,o,none⟩) (n+3) xcap) (some (.int .i64 2)) none none).run prog w=.ok (.slice (tlD g o xcap 2) (n+1) (xcap-2)) w:=fun w=>qdg g o (n+1) xcap hcp w
 have hsl1:∀w,(Instr.slice 132 (.slice (some ⟨gt,ot,none⟩) (tn+1) ycap) (some (.int .i64 1)) none none).run prog w=.ok (.slice (tlD gt ot ycap 1) tn (ycap-1)) w:=fun w=>qdh gt ot tn ycap htc w
 have HD:=hZ hD
 have h3:(3:Int)≤(n:Int)+3:=by omega
 have h1:(1:Int)<(n:Int)+3:=by omega
 have h0:(0:Int)<(tn:Int)+1:=by omega
 have lgt:=qac b0
 have HBox:Hid (∀(w':World) q,w'.heap[q]? =some (.cells (Dl.cells ⟨4,0,false,⟨#[]⟩,0,tlD gt ot ycap 1,tn,ycap-1⟩) 134 (0,0))→w'.cell? ⟨q,0,none⟩=some (.int .i64 4)∧w'.cell? ⟨q,1,none⟩=some (.int .i64 0)∧w'.cell? ⟨q,2,none⟩=some (.bool false)∧w'.cell? ⟨q,3,none⟩=some (.string ⟨#[]⟩)∧w'.cell? ⟨q,4,none⟩=some (.int .i64 0)∧w'.cell? ⟨q,5,none⟩=some (.slice (tlD gt ot ycap 1) tn (ycap-1))):=fun w' q h=>by
  refine⟨?_,?_,?_,?_,?_,?_⟩ <;> (simp only [World.cell?,h];rfl)
 clear hD
 go_enter func233,ntmps233
 go_wp2_with (first|(go_at_call 290;refine(qam _).mono ?_;rintro e w2 ⟨rfl,hww⟩;obtain rfl:=hww.symm)|(go_at_call 291;refine(HD.out _ (by exact⟨rfl,rfl,rfl,rfl⟩)).mono ?_;rintro e w2 (⟨ps,rfl,hq⟩|⟨v,rfl,nm,rfl,d0,hbx,hE⟩);(exact⟨rfl,hq⟩);refine Hid.out ?_))
 have x5:w2.cell? ⟨w.heap.size,5,none⟩=some (.slice (some ⟨gt,ot,none⟩) (tn+1) ycap):=by simp only [World.cell?,hbx];rfl
 have HE:=hZ hE
 have l0:=qac d0
 clear hE HD hbx a0 a1 a2 a3 a4 a5 b0 b1 b2 b3 b4 b5
 refine hZ ?_
 go_wp2_with (first|(go_at_call 238;refine(qhi _ _ _ _).mono ?_;rintro e w3 ⟨rfl,o3,hl⟩;refine Hid.out ?_))
 have hb3:Below w2.heap.size w2 w3:=bl1 hl
 have hbw:Below w2.heap.size w2 (w3.alloc (.cells (Dl.cells ⟨4,0,false,⟨#[]⟩,0,tlD gt ot ycap 1,tn,ycap-1⟩) 134)):=hb3.trans ((qab _ _).mono hb3.size)
 have hnew:=heap_alloc_new w3 (.cells (Dl.cells ⟨4,0,false,⟨#[]⟩,0,tlD gt ot ycap 1,tn,ycap-1⟩) 134)
 have e0:(w3.alloc (.cells (Dl.cells ⟨4,0,false,⟨#[]⟩,0,tlD gt ot ycap 1,tn,ycap-1⟩) 134)).cell? ⟨xb,0,none⟩=some (bp mb):=qaj ((hb3.cell (p:=⟨xb,0,none⟩) l0).trans d0)
 have hq3:w2.heap.size≤w3.heap.size:=hb3.size
 have hqs:w3.heap.size<(w3.alloc (.cells (Dl.cells ⟨4,0,false,⟨#[]⟩,0,tlD gt ot ycap 1,tn,ycap-1⟩) 134)).heap.size:=by simp
 generalize hW:w3.alloc (.cells (Dl.cells ⟨4,0,false,⟨#[]⟩,0,tlD gt ot ycap 1,tn,ycap-1⟩) 134)=W at hbw hnew e0 hqs
 generalize hqq:w3.heap.size=q at hnew hq3 hqs
 have HBW:=hZ hbw
 have HNew:=hZ hnew
 obtain⟨f0,f1,f2,f3,f4,f5⟩:=HBox.out W q hnew
 have HQ3:=hZ (And.intro hq3 hqs)
 clear hl hb3 hbw hnew x5 d0
 refine hZ ?_
 go_wp2_with (fail)
 first|rw [hW,hqq]|rw [hqq,hW]|rw [hW]|skip
 clear hW hqq hq3 hqs
 go_region_held2 (fun w'=>w'.cell? ⟨xb,0,none⟩=some (bp mb)∧w'.cell? ⟨q,0,none⟩=some (.int .i64 4)∧w'.cell? ⟨q,1,none⟩=some (.int .i64 0)∧w'.cell? ⟨q,2,none⟩=some (.bool false)∧w'.cell? ⟨q,3,none⟩=some (.string ⟨#[]⟩)∧w'.cell? ⟨q,4,none⟩=some (.int .i64 0)∧w'.cell? ⟨q,5,none⟩=some (.slice (tlD gt ot ycap 1) tn (ycap-1))) (first|(exact⟨e0,f0,f1,f2,f3,f4,f5⟩)|(exact HS1.out)|(exact HS2.out)|go_keep)
  (first
   |(go_at_call 293;refine(HE.out _ (HBW.out.trans ((bl0 (by exact⟨rfl,rfl,rfl,rfl⟩)).mono HBW.out.size))).mono ?_;rintro e w4 (⟨ps,rfl,hq⟩|⟨v,rfl,kc,cc,rfl,hc,hkp,hk⟩);(exact⟨rfl,hq⟩);have HS1:=hZ (And.intro hc (HBox.out w4 q ((hkp q HQ3.out.1 HQ3.out.2).trans HNew.out)));have HK:=hZ hk;clear hc hkp hk)
   |(go_at_call 292;refine(HK.out _ (by exact⟨rfl,rfl,rfl,rfl⟩)).mono ?_;rintro e w6 (⟨ps,rfl,hq⟩|⟨v,rfl,hc,hkp,hq⟩);(exact⟨rfl,hq⟩);have HS2:=hZ (And.intro hc (HBox.out w6 q ((hkp q HQ3.out.1 HQ3.out.2).trans HNew.out)));have HQ:=hZ hq;clear hc hkp hq))
 all_goals go_wp2
 all_goals exact HQ.out
theorem qo9 (xb:Nat) (yk yn:Int) (ytr:Bool) (ytx:ByteArray) (ym:Int) (ya:Option Addr) (ylen ycap:Nat) (w:World) (Q:Ending→World→Prop)
  (hR:∀w',Lk (w.alloc (.cells (Dl.cells ⟨yk,yn,ytr,ytx,ym,ya,ylen,ycap⟩) 134)) w'→Calls prog 231 #[bp xb,.agg (Dl.cells ⟨yk,yn,ytr,ytx,ym,ya,ylen,ycap⟩)] w' (RetP (fun v w2=>∃e2:Dl,v=.agg e2.cells∧w2.heap[w.heap.size]? =some (.cells (Dl.cells ⟨yk,yn,ytr,ytx,ym,ya,ylen,ycap⟩) 134 (0,0))∧
   ∀W,Lk (set6 w2 w.heap.size (.int .i64 e2.k) (.int .i64 e2.n) (.bool e2.tr) (.string e2.tx) (.int .i64 e2.m) (.slice e2.a e2.len e2.cap)) W→Calls prog 232 #[bp xb,.agg e2.cells] W fun e w3=>∃s:ByteArray,e=.returned (.string s)∧Below W.heap.size W w3∧
    ((s=⟨#[100,101,102,105,110,101]⟩∧∀w4,Lk w3 w4→Calls prog 233 #[bp xb,.slice e2.a e2.len e2.cap] w4 (RQ Q))∨
     (s=⟨#[100,101,102,105,110,101,45,115,121,110,116,97,120]⟩∧∀w4,Lk w3 w4→Calls prog 234 #[bp xb,.slice e2.a e2.len e2.cap] w4 (RetP (fun v w5=>v=.tuple #[]∧Q (.returned (.func (.func 235) #[] #[])) w5) Q))∨
     ((s.toList== [100,101,102,105,110,101])=false∧(s.toList== [100,101,102,105,110,101,45,115,121,110,116,97,120])=false∧∀w4,Lk w3 w4→Calls prog 236 #[bp xb,.agg e2.cells] w4 (RQ Q)))) Q)):
  Calls prog 144 #[bp xb,.agg (Dl.cells ⟨yk,yn,ytr,ytx,ym,ya,ylen,ycap⟩)] w Q:=by
 have HR:=hZ hR
 clear hR
 go_enter func144,ntmps144
 go_wp2_with (go_at_call 231;refine(HR.out _ (by exact⟨rfl,rfl,rfl,rfl⟩)).mono ?_;rintro e w2 (⟨ps,rfl,hq⟩|⟨v,rfl,⟨zk,zn,ztr,ztx,zm,za,zlen,zcap⟩,rfl,hbx,hK⟩);(exact⟨rfl,hq⟩);refine Hid.out ?_)
 have t0:w2.cell? ⟨w.heap.size,0,none⟩=some (.int .i64 yk):=by simp only [World.cell?,hbx];rfl
 have t1:w2.cell? ⟨w.heap.size,1,none⟩=some (.int .i64 yn):=by simp only [World.cell?,hbx];rfl
 have t2:w2.cell? ⟨w.heap.size,2,none⟩=some (.bool ytr):=by simp only [World.cell?,hbx];rfl
 have t3:w2.cell? ⟨w.heap.size,3,none⟩=some (.string ytx):=by simp only [World.cell?,hbx];rfl
 have t4:w2.cell? ⟨w.heap.size,4,none⟩=some (.int .i64 ym):=by simp only [World.cell?,hbx];rfl
 have t5:w2.cell? ⟨w.heap.size,5,none⟩=some (.slice ya ylen ycap):=by simp only [World.cell?,hbx];rfl
 have tf:∀o,w2.frozen? ⟨w.heap.size,o,none⟩=false:=fun o=>by simp [World.frozen?,hbx]
 have hs6:=qed (v0:=.int .i64 zk) (v1:=.int .i64 zn) (v2:=.bool ztr) (v3:=.string ztx) (v4:=.int .i64 zm) (v5:=.slice za zlen zcap) hbx
 have s0:(set6 w2 w.heap.size (.int .i64 zk) (.int .i64 zn) (.bool ztr) (.string ztx) (.int .i64 zm) (.slice za zlen zcap)).cell? ⟨w.heap.size,0,none⟩=some (.int .i64 zk):=by simp only [World.cell?,hs6];rfl
 have s1:(set6 w2 w.heap.size (.int .i64 zk) (.int .i64 zn) (.bool ztr) (.string ztx) (.int .i64 zm) (.slice za zlen zcap)).cell? ⟨w.heap.size,1,none⟩=some (.int .i64 zn):=by simp only [World.cell?,hs6];rfl
 have s2:(set6 w2 w.heap.size (.int .i64 zk) (.int .i64 zn) (.bool ztr) (.string ztx) (.int .i64 zm) (.slice za zlen zcap)).cell? ⟨w.heap.size,2,none⟩=some (.bool ztr):=by simp only [World.cell?,hs6];rfl
 have s3:(set6 w2 w.heap.size (.int .i64 zk) (.int .i64 zn) (.bool ztr) (.string ztx) (.int .i64 zm) (.slice za zlen zcap)).cell? ⟨w.heap.size,3,none⟩=some (.string ztx):=by simp only [World.cell?,hs6];rfl
 have s4:(set6 w2 w.heap.size (.int .i64 zk) (.int .i64 zn) (.bool ztr) (.string ztx) (.int .i64 zm) (.slice za zlen zcap)).cell? ⟨w.heap.size,4,none⟩=some (.int .i64 zm):=by simp only [World.cell?,hs6];rfl
 have s5:(set6 w2 w.heap.size (.int .i64 zk) (.int .i64 zn) (.bool ztr) (.string ztx) (.int .i64 zm) (.slice za zlen zcap)).cell? ⟨w.heap.size,5,none⟩=some (.slice za zlen zcap):=by simp only [World.cell?,hs6];rfl
 have lw:=qac s0
 have HKW:Hid (Calls prog 232 #[bp xb,.agg #[.int .i64 zk,.int .i64 zn,.bool ztr,.string ztx,.int .i64 zm,.slice za zlen zcap]] (set6 w2 w.heap.size (.int .i64 zk) (.int .i64 zn) (.bool ztr) (.string ztx) (.int .i64 zm) (.slice za zlen zcap)) fun e w3=>∃s:ByteArray,e=.returned (.string s)∧Below (set6 w2 w.heap.size (.int .i64 zk) (.int .i64 zn) (.bool ztr) (.string ztx) (.int .i64 zm) (.slice za zlen zcap)).heap.size (set6 w2 w.heap.size (.int .i64 zk) (.int .i64 zn) (.bool ztr) (.string ztx) (.int .i64 zm) (.slice za zlen zcap)) w3∧
    ((s=⟨#[100,101,102,105,110,101]⟩∧∀w4,Lk w3 w4→Calls prog 233 #[bp xb,.slice za zlen zcap] w4 (RQ Q))∨
     (s=⟨#[100,101,102,105,110,101,45,115,121,110,116,97,120]⟩∧∀w4,Lk w3 w4→Calls prog 234 #[bp xb,.slice za zlen zcap] w4 (RetP (fun v w5=>v=.tuple #[]∧Q (.returned (.func (.func 235) #[] #[])) w5) Q))∨
     ((s.toList== [100,101,102,105,110,101])=false∧(s.toList== [100,101,102,105,110,101,45,115,121,110,116,97,120])=false∧∀w4,Lk w3 w4→Calls prog 236 #[bp xb,.agg #[.int .i64 zk,.int .i64 zn,.bool ztr,.string ztx,.int .i64 zm,.slice za zlen zcap]] w4 (RQ Q)))):=hK _ ⟨rfl,rfl,rfl,rfl⟩
 clear hK hbx hs6 HR
 unfold set6 at s0 s1 s2 s3 s4 s5 lw HKW
 refine hZ ?_
 go_wp2_with (fail)
 generalize (((((w2.setCell ⟨w.heap.size,0,none⟩ (.int .i64 zk)).setCell ⟨w.heap.size,1,none⟩ (.int .i64 zn)).setCell ⟨w.heap.size,2,none⟩ (.bool ztr)).setCell ⟨w.heap.size,3,none⟩ (.string ztx)).setCell ⟨w.heap.size,4,none⟩ (.int .i64 zm)).setCell ⟨w.heap.size,5,none⟩ (.slice za zlen zcap)=W at s0 s1 s2 s3 s4 s5 lw HKW⊢
 go_wp2_with (first|(go_at_call 232;refine HKW.out.mono ?_;clear t0 t1 t2 t3 t4 t5 tf;rintro e w3 ⟨s,rfl,hb,hcase⟩;have z0:=(hb.cell (p:=⟨w.heap.size,0,none⟩) lw).trans s0;have z1:=(hb.cell (p:=⟨w.heap.size,1,none⟩) lw).trans s1;have z2:=(hb.cell (p:=⟨w.heap.size,2,none⟩) lw).trans s2;have z3:=(hb.cell (p:=⟨w.heap.size,3,none⟩) lw).trans s3;have z4:=(hb.cell (p:=⟨w.heap.size,4,none⟩) lw).trans s4;have z5:=(hb.cell (p:=⟨w.heap.size,5,none⟩) lw).trans s5;clear hb;have HCase:=hZ hcase;clear hcase HKW s0 s1 s2 s3 s4 s5;refine Hid.out ?_))
 rcases HCase.out with⟨rfl,hk⟩|⟨rfl,hk⟩|⟨hn1,hn2,hk⟩ <;> (have HK:=hZ hk;clear hk HCase)
 ·refine hZ ?_
  go_wp2_with (first|(go_at_call 233;refine(HK.out _ (by exact⟨rfl,rfl,rfl,rfl⟩)).mono ?_;rintro e w4 (⟨ps,rfl,hq⟩|⟨v,rfl,hq⟩);(exact⟨rfl,hq⟩);have HQ:=hZ hq;clear hq))
  exact HQ.out
 ·refine hZ ?_
  go_wp2_with (first|(go_at_call 234;refine(HK.out _ (by exact⟨rfl,rfl,rfl,rfl⟩)).mono ?_;rintro e w4 (⟨ps,rfl,hq⟩|⟨v,rfl,rfl,hq⟩);(exact⟨rfl,hq⟩);have HQ:=hZ hq;clear hq))
  exact HQ.out
 ·refine hZ ?_
  go_wp2_with (first|(go_at_call 236;refine(HK.out _ (by exact⟨rfl,rfl,rfl,rfl⟩)).mono ?_;rintro e w4 (⟨ps,rfl,hq⟩|⟨v,rfl,hq⟩);(exact⟨rfl,hq⟩);have HQ:=hZ hq;clear hq))
  exact HQ.out
end
section
open Sc
structure LooseX (X:Xe) (G:Gh) (b:Nat):Prop where
 I:G.I b=none
 mu:b∉G.mut
 F:¬G.F b
 O:b∉[X.rb,X.mm,X.ab,X.bm]
 R:¬X.Rw b
theorem LooseX.new {K:Rl} {X:Xe} {G:Gh} {S:Sub} {m:Mc} {x:Xs} {sc:Scope} {w:World} {b:Nat} (g:Inv G S m w) (i:XInv K X G S x sc w) (hb:w.heap.size≤b):LooseX X G b:=
 ⟨g.fresh hb,fun h=>by have:=g.ml h;omega,fun h=>by have:=(g.ff h).2;omega,fun h=>by have:=(i.lo _ h).2.2.1;have:=i.sl;omega,fun h=>by have:=(i.rr _ h).2.2.2.1;omega⟩
theorem LooseX.mx {X Y:Xe} {G H:Gh} {w w':World} {b:Nat} (m:Mx X G w Y H w') (hb:b<w.heap.size) (l:LooseX X G b):LooseX Y H b∧w'.heap[b]? =w.heap[b]?:=by
 obtain⟨s1,s2,s3,s4,s5,s6⟩:=m.same
 refine⟨⟨by rw [m.I hb];exact l.I,fun h=>(m.mu h).elim l.mu (fun h=>by omega),by rw [m.up.F];exact l.F,by rw [s2,s3,s4,s5];exact l.O,fun h=>(m.rw h).elim l.R (fun h=>by omega)⟩,m.blk hb l.mu l.O l.R⟩
theorem XInv.fix {K:Rl} {X:Xe} {G:Gh} {S:Sub} {x:Xs} {sc:Scope} {w:World} {b:Nat} {o:Obj} (i:XInv K X G S x sc w) (l:LooseX X G b):XInv K X (G.add b o) S x sc w:=by
 have hle:=Gh.le_add (o:=o) l.I
 obtain⟨es,clock,M,hm1,hm2,hm3⟩:=i.mc
 have hI:∀c,c≠b→(G.add b o).I c=G.I c:=fun c hc=>if_neg hc
 refine⟨hle.I i.xe,i.mt,i.ml,i.ab,i.bd,fun c hc=>?_,⟨es,clock,M,hm1,hm2,hm3.mono hle⟩,fun c hc=>?_,i.nd,i.sl,i.sz⟩
 ·obtain⟨h1,h2,h3,h4,h5⟩:=i.rr c hc
  exact⟨by rw [hI c (fun e=>l.R (e▸hc))];exact h1,h2,h3,h4,h5⟩
 ·obtain⟨h1,h2,h3,h4⟩:=i.lo c hc
  exact⟨by rw [hI c (fun e=>l.O (e▸hc))];exact h1,h2,h3,h4⟩
theorem Mx.fix {X Y:Xe} {G H:Gh} {w w':World} {b:Nat} {o:Obj} (m:Mx X G w Y H w') (hb:w.heap.size≤b) (hI:H.I b=none):Mx X G w Y (H.add b o) w':=
 ⟨m.same,m.up.trans ⟨Gh.le_add hI,rfl,rfl⟩,fun {c} hc=>(if_neg (by omega)).trans (m.I hc),m.mu,m.rw,m.blk,m.size⟩
theorem Mx.set {X Y:Xe} {G H:Gh} {w w':World} {b k:Nat} {v:Value} (m:Mx X G w Y H w') (hb:w.heap.size≤b):Mx X G w Y H (w'.setCell ⟨b,k,none⟩ v):=
 ⟨m.same,m.up,m.I,m.mu,m.rw,fun {c} h1 h2 h3 h4=>by rw [qaa (a:=⟨b,k,none⟩) c (by show c≠b;omega)];exact m.blk h1 h2 h3 h4,by rw [qaf];exact m.size⟩
theorem Mx.below {X Y:Xe} {G H:Gh} {w w' w2:World} (m:Mx X G w Y H w') (h:Below w'.heap.size w' w2):Mx X G w Y H w2:=m.trans (Mx.of (Mv.ext (Gh.ext.refl _ _) h))
theorem Mx.mv {X Y:Xe} {G H L:Gh} {w w' w2:World} (m:Mx X G w Y H w') (h:Mv H w' L w2):Mx X G w Y L w2:=m.trans (Mx.of h)
theorem Mx.ofBelow {X:Xe} {G:Gh} {w w':World} (h:Below w.heap.size w w'):Mx X G w X G w':=Mx.of (Mv.ext (Gh.ext.refl _ _) h)
def XPost (K:Rl) (X:Xe) (G:Gh) (S:Sub) (m:Mc) (sc:Scope) (w:World) (rv:Except Nat Ex×Xs) (e':Ending) (w':World):Prop:=
 (∃vd x',rv=(.error vd,x')∧e'=.panicked (stopP (stopV vd))∧Cnt G S m w'∧Mt X.rb (Xs.count x') S.rewrites 12 w')∨
 (∃Y H ex x' v,rv=(.ok ex,x')∧e'=.returned v∧Mx X G w Y H w'∧Inv H S m w'∧XInv K Y H S x' sc w'∧CRep H (shOf sc) ex v)
def XsPost (K:Rl) (X:Xe) (G:Gh) (S:Sub) (m:Mc) (sc:Scope) (w:World) (n:Nat) (rv:Except Nat (List Ex)×Xs) (e':Ending) (w':World):Prop:=
 (∃vd x',rv=(.error vd,x')∧e'=.panicked (stopP (stopV vd))∧Cnt G S m w'∧Mt X.rb (Xs.count x') S.rewrites 12 w')∨
 (∃Y H exs x' g xs,rv=(.ok exs,x')∧e'=.returned (.slice (some ⟨g,0,none⟩) n n)∧xs.length=n∧w'.heap[g]? =some (.cells xs.toArray 241 (0,0))∧w.heap.size≤g∧LooseX Y H g∧Mx X G w Y H w'∧Inv H S m w'∧XInv K Y H S x' sc w'∧XRep H (shOf sc) exs xs)
def DRow (G:Gh) (a:Option Addr) (len cap:Nat) (l:List Dt):Prop:=∃es:List Dl,len=l.length∧len=es.length∧DsRep G l es∧len≤cap∧len≤30000∧(0<len→∃g o arr,a=some ⟨g,o,none⟩∧G.I g=some (.cells arr 134 (0,0))∧∀(i j:Nat) (x:Dl),es[i]? =some x→j<6→arr[o+i*6+j]? =x.cells[j]?)
theorem DRow.mono {G H:Gh} (h:G.le H) {a:Option Addr} {len cap:Nat} {l:List Dt}:DRow G a len cap l→DRow H a len cap l
 |⟨es,h1,h2,h3,h4,h5,h6⟩=>⟨es,h1,h2,h3.mono h,h4,h5,fun hp=>by obtain⟨g,o,arr,q1,q2,q3⟩:=h6 hp;exact⟨g,o,arr,q1,h.I q2,q3⟩⟩
theorem DRep.row {G:Gh} {l:List Dt} {e:Dl} (h:DRep G (.list l) e):DRow G e.a e.len e.cap l:=by
 cases h with
 |nil e h hl=>exact⟨[],by simpa using hl,by simpa using hl,.nil,by omega,by omega,fun hp=>by omega⟩
 |list e h l es g o arr hl hcp hm ha hg hr hs=>exact⟨es,by rw [hl,(hs.at).1],hl,hs,hcp,hm,fun _=>⟨g,o,arr,ha,hg,hr⟩⟩
def SimRewr (K:Rl) (S:Sub):Prop:=∀(X:Xe) (G:Gh) (m:Mc) (x:Xs) (sc:Scope) (w:World) (d:Dt) (e:Dl) (F:Nat),Inv G S m w→XInv K X G S x sc w→DRep G d e→(rewr S F x sc d).1≠.error 0→Calls prog 231 #[bp X.xb,.agg e.cells] w (RwPost K X G S m sc w (rewr S F x sc d))
def FormS (K:Rl) (S:Sub) (f:Nat):Prop:=∀(X:Xe) (G:Gh) (m:Mc) (x:Xs) (sc:Scope) (w:World) (d:Dt) (e:Dl),Inv G S m w→XInv K X G S x sc w→DRep G d e→members d≤1000000000000→sc.length+f≤1000000000→(form S f x sc d).1≠.error 0→Calls prog 236 #[bp X.xb,.agg e.cells] w (XPost K X G S m sc w (form S f x sc d))
def FormsS (K:Rl) (S:Sub) (f:Nat):Prop:=∀(X:Xe) (G:Gh) (m:Mc) (x:Xs) (sc:Scope) (w:World) (l:List Dt) (a:Option Addr) (len cap:Nat),Inv G S m w→XInv K X G S x sc w→DRow G a len cap l→membersL l≤1000000000000→sc.length+f≤1000000000→(forms S f x sc l).1≠.error 0→Calls prog 334 #[bp X.xb,.slice a len cap] w (XsPost K X G S m sc w len (forms S f x sc l))
def LambdaS (K:Rl) (S:Sub) (f:Nat):Prop:=∀(X:Xe) (G:Gh) (m:Mc) (x:Xs) (sc:Scope) (w:World) (p:Dt) (e:Dl) (l:List Dt) (a:Option Addr) (len cap:Nat),Inv G S m w→XInv K X G S x sc w→DRep G p e→DRow G a len cap l→membersL l≤1000000000000→0<len→sc.length+f≤1000000000→(lambda S f x sc p l).1≠.error 0→Calls prog 293 #[bp X.xb,.agg e.cells,.slice a len cap] w (XPost K X G S m sc w (lambda S f x sc p l))
theorem XPost.bad {K:Rl} {X:Xe} {G:Gh} {S:Sub} {m:Mc} {sc:Scope} {x:Xs} {w w':World} {rv:Except Nat Ex×Xs} (g:Inv G S m w) (i:XInv K X G S x sc w) (h:rv=(.error 4,x)) (hb:Below w.heap.size w w'):XPost K X G S m sc w rv (.panicked (stopP (stopV 4))) w':=
 .inl ⟨4,x,h,rfl,g.cntB (Nat.le_refl _) hb,i.mt.keep (hb.block _ (Nat.lt_of_lt_of_le (i.lo _ (by simp)).2.2.1 i.sl))⟩
end
section
open Sc
theorem XRep.snoc {G:Gh} {sh:List Nat} {a:Ex} {v:Value} (ha:CRep G sh a v):∀{l:List Ex} {xs:List Value},XRep G sh l xs→XRep G sh (l++[a]) (xs++[v])
 |_,_,.nil _=>.cons _ _ _ _ _ ha (.nil _)
 |_,_,.cons _ _ _ _ _ h hs=>.cons _ _ _ _ _ h (XRep.snoc ha hs)
theorem XRep.func {G:Gh} {sh:List Nat}:∀{l:List Ex} {xs:List Value},XRep G sh l xs→∀x∈xs,∃k c,x=.func (.func k) #[] c
 |_,_,.nil _,x,hx=>by simp at hx
 |_,_,.cons _ _ _ _ _ h hs,x,hx=>by
  rcases List.mem_cons.1 hx with rfl|hx
  ·obtain⟨k,c,e,_⟩:=h.isF;exact⟨k,c,e⟩
  ·exact XRep.func hs x hx
theorem qca (l:List Dt) {d:Dt} (h:d∈l):members d≤membersL l:=by
 induction l with
 |nil=>simp at h
 |cons a r ih=>
  simp only [membersL]
  rcases List.mem_cons.1 h with rfl|h
  ·omega
  ·have:=ih h;omega
def glue (exs:List Ex):Except Nat (List Ex)×Xs→Except Nat (List Ex)×Xs
 |(.error e,x)=>(.error e,x)
 |(.ok r,x)=>(.ok (exs++r),x)
theorem qsk (rv:Except Nat (List Ex)×Xs):glue [] rv=rv:=by
 obtain⟨r,x⟩:=rv
 cases r <;> rfl
theorem row_set (xs:List Value) (v:Value) (n:Nat) (hn:xs.length<n):((xs++List.replicate (n-xs.length) Value.nilFunc).toArray.setIfInBounds xs.length v)=((xs++[v])++List.replicate (n-(xs.length+1)) Value.nilFunc).toArray:=by
 apply Array.ext'
 simp only [Array.toList_setIfInBounds]
 rw [show n-xs.length=(n-(xs.length+1))+1 from by omega,List.replicate_succ]
 simp
theorem qoq (n:Nat):madeCells #[Value.nilFunc] n=(List.replicate n Value.nilFunc).toArray:=by
 apply Array.ext_getElem?
 intro i
 rcases Nat.lt_or_ge i n with h|h
 ·simp [madeCells,h,Nat.mod_one]
 ·rw [Array.getElem?_eq_none (by simp [madeCells];omega),Array.getElem?_eq_none (by simp;omega)]
theorem forms_of {K:Rl} {S:Sub} {f:Nat} (ih:∀j,j<f→FormS K S j):FormsS K S f:=by
 intro X G m x sc w l a len cap g i hd hmb hsc hne
 obtain⟨es,hl1,hl2,hs,hcp,hm,hrow⟩:=hd
 obtain⟨hat1,hat2⟩:=hs.at
 have hq0:w.heap.size≤w.heap.size:=Nat.le_refl _
 refine qmn X.xb a len cap (fun k=>(es[k]?).getD ⟨0,0,false,⟨#[]⟩,0,none,0,0⟩) w _
  (fun k wr=>∃Y H x1 exs xs,k≤len∧exs.length=k∧xs.length=k∧forms S f x sc l=glue exs (forms S (f-k) x1 sc (l.drop k))∧Mx X G w Y H wr∧Inv H S m wr∧XInv K Y H S x1 sc wr∧XRep H (shOf sc) exs xs∧wr.heap[w.heap.size]? =some (.cells (xs++List.replicate (len-k) Value.nilFunc).toArray 241 (0,0))∧LooseX Y H w.heap.size) (by omega) ?_ ?_ ?_ ?_
 ·intro w' hw
  have hb:Below w.heap.size w w':=bl1 hw
  refine⟨X,G,x,[],[],Nat.zero_le _,rfl,rfl,by simp [qsk],Mx.ofBelow hb,g.below hb,i.below hb,.nil _,?_,LooseX.new g i (Nat.le_refl _)⟩
  rw [hw.heap,heap_alloc_new,qoq];simp
 ·rintro k wr ⟨Y,H,x1,exs,xs,hk,h1,h2,h3,hmx,hi,hx,hxr,hr,hlo⟩ hlt
  obtain⟨g0,o,arr,q1,q2,q3⟩:=hrow (by omega)
  refine⟨g0,o,q1,fun j hj=>?_⟩
  have hke:k<es.length:=by omega
  rw [hi.cell (hmx.up.le.I q2),List.getElem?_eq_getElem hke]
  exact q3 k j _ (List.getElem?_eq_getElem hke) hj
 ·rintro k wr ⟨Y,H,x1,exs,xs,hk,h1,h2,h3,hmx,hi,hx,hxr,hr,hlo⟩ hlt w' hw
  have hke:k<es.length:=by omega
  have hkl:k<l.length:=by omega
  have hdk:DRep G l[k] es[k]:=hat2 k _ _ (List.getElem?_eq_getElem hkl) (List.getElem?_eq_getElem hke)
  have hb:Below wr.heap.size wr w':=bl1 hw
  have hrl:w.heap.size<wr.heap.size:=(Array.getElem?_eq_some_iff.1 hr).1
  have hdrop:l.drop k=l[k]::l.drop (k+1):=List.drop_eq_getElem_cons hkl
  obtain⟨j,hj⟩:∃j,f-k=j+1:=by
   cases hfk:f-k with
   |zero=>rw [h3,hfk]at hne;exact absurd rfl hne
   |succ j=>exact⟨j,rfl⟩
  rw [hdrop,hj]at h3
  have hun:forms S (j+1) x1 sc (l[k]::l.drop (k+1))=(match form S j x1 sc l[k]with
   |(.error e,x)=>(.error e,x)
   |(.ok a,x)=>match forms S j x sc (l.drop (k+1))with
    |(.error e,x)=>(.error e,x)
    |(.ok r,x)=>(.ok (a::r),x)):=rfl
  rw [hun]at h3
  have hfne:(form S j x1 sc l[k]).1≠.error 0:=fun h=>by
   apply hne
   rw [h3]
   cases hfr:form S j x1 sc l[k]with
   |mk fr fx=>
    rw [hfr]at h
    have h:fr=.error 0:=h
    subst h
    rfl
  have hu:=hmx.up
  simp only [List.getElem?_eq_getElem hke,Option.getD_some]
  have hxb:Y.xb=X.xb:=hmx.same.1
  have key:=ih j (by omega) Y H m x1 sc w' l[k] es[k] (hi.below hb) (hx.below hb) (hdk.mono hu.le) (Nat.le_trans (qca l (List.getElem_mem hkl)) hmb) (by omega) hfne
  rw [hxb]at key
  refine Calls.mono key ?_
  rintro e' w2 (⟨vd,x',hv,rfl,hc,hmt⟩|⟨Z,L,ex,x',v,hv,rfl,hmx2,hi2,hx2,hcr⟩)
  ·refine .inl ⟨_,rfl,.inl ⟨vd,x',?_,rfl,hc.up hu,by rw [←hmx.same.2.1];exact hmt⟩⟩
   rw [h3,hv];rfl
  ·have hmx3:Mx Y H wr Z L w2:=(Mx.ofBelow hb).trans hmx2
   obtain⟨hlo2,hr2⟩:=hlo.mx hmx3 hrl
   rw [hr]at hr2
   have hxs:xs.length<len:=by omega
   have hkc:k<(xs++List.replicate (len-k) Value.nilFunc).toArray.size:=by simp;omega
   refine .inr ⟨v,rfl,?_,⟨(xs++List.replicate (len-k) Value.nilFunc).toArray[k],by simp only [World.cell?,hr2];exact Array.getElem?_eq_getElem hkc⟩,by simp [World.frozen?,hr2],fun w3 hw3=>?_⟩
   ·obtain⟨kc,cc,e,_⟩:=hcr.isF;exact⟨kc,cc,e⟩
   ·refine⟨Z,L,x',exs++[ex],xs++[v],by omega,by simp [h1],by simp [h2],?_,?_,?_,?_,?_,?_,hlo2⟩
    ·rw [h3,hv]
     have:f-(k+1)=j:=by omega
     rw [this]
     simp only
     cases hfs:forms S j x' sc (l.drop (k+1))with
     |mk r y=>cases r <;> simp [glue]
    ·exact((hmx.trans hmx3).set hq0).lk hw3
    ·exact Inv.lk hw3 (hi2.loose hlo2.I hlo2.mu hlo2.F)
    ·exact(hx2.set hlo2.O hlo2.R).below (bl0 hw3)
    ·exact XRep.snoc hcr (hxr.mono hmx3.up.le)
    ·rw [hw3.heap]
     have:=row_set xs v len hxs
     rw [h2]at this
     simp only [World.setCell,Array.getElem?_modify,if_pos,hr2,Option.map_some]
     rw [←this]
     simp
 ·rintro wr ⟨Y,H,x1,exs,xs,hk,h1,h2,h3,hmx,hi,hx,hxr,hr,hlo⟩
  have hdn:l.drop len=[]:=by rw [hl1];simp
  rw [hdn]at h3
  obtain⟨j,hj⟩:∃j,f-len=j+1:=by
   cases hfk:f-len with
   |zero=>rw [h3,hfk]at hne;exact absurd rfl hne
   |succ j=>exact⟨j,rfl⟩
  rw [hj]at h3
  refine .inr ⟨Y,H,exs,x1,w.heap.size,xs,?_,rfl,h2,?_,hq0,hlo,hmx,hi,hx,hxr⟩
  ·rw [h3];simp [forms,glue]
  ·rw [hr];simp
end
end Go.Proofs.YtldaocpojcfljaaGreatDoor
