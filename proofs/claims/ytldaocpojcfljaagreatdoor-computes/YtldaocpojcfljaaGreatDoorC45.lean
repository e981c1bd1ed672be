import Derived.Test.YtldaocpojcfljaaGreatDoorC44
set_option maxRecDepth 100000
set_option maxHeartbeats 4000000
namespace Go.Proofs.YtldaocpojcfljaaGreatDoor
open Tryz hiding parts
open Go.RowKit Go.Shelf
section
open Sc
theorem qil (b:Nat) (t mo out:Int) (w:World) (h:Mt b t mo out w):Calls prog 57 #[bp b] w fun e w'=>e=.returned (.int .i64 t)∧Lk w w':=by
 have c0:=h.c0
 go_enter func57,ntmps57
 go_wp2
 go_ret
 exact⟨rfl,rfl,rfl,rfl,rfl⟩
def resC (ve re pl:Int) (va:ByteArray) (st ce rw:Int):Array Value:=#[.int .i64 ve,.int .i64 re,.int .i64 pl,.string va,.string ⟨#[]⟩,.int .i64 st,.int .i64 ce,.int .i64 rw,.slice none 0 0]
def gradeW (t:ByteArray) (w:World):World:=((((((((w.alloc (.cells (subC t) 34)).alloc (.cells (resC 0 0 0 ⟨#[]⟩ 0 0 0) 29)).alloc (.cells #[.int .i64 0,.int .i64 20000,.int .i64 10] 164)).alloc (.cells #[.int .i64 0,.int .i64 5000,.int .i64 11] 164)).alloc (.map #[] 0)).alloc (.cells #[bp (w.heap.size+2),bp (w.heap.size+3),.map (some (w.heap.size+4)),.nilIface,.pointer none] 119)).alloc (.cells #[.int .i64 0,.int .i64 500,.int .i64 12] 164)).alloc (.cells (runC (w.heap.size+5) (w.heap.size+6) 0 0 0 ⟨#[]⟩) 112))
def GS (n:Nat) (w:World):Prop:=w.cell? ⟨n,6,none⟩=some (.int .i64 20000)∧w.cell? ⟨n,8,none⟩=some (.int .i64 5000)∧w.cell? ⟨n,7,none⟩=some (.int .i64 500)
theorem GS.of {n:Nat} {t:ByteArray} {w:World} (h:w.heap[n]? =some (.cells (subC t) 34 (0,0))):GS n w:=by
 refine⟨?_,?_,?_⟩ <;> simp only [World.cell?,h] <;> rfl
def gradeW0 (t:ByteArray) (w:World):World:=(w.alloc (.cells (subC t) 34)).alloc (.cells (resC 0 0 0 ⟨#[]⟩ 0 0 0) 29)
def gradeW4 (t:ByteArray) (w:World):World:=((((gradeW0 t w).alloc (.cells #[.int .i64 0,.int .i64 20000,.int .i64 10] 164)).alloc (.cells #[.int .i64 0,.int .i64 5000,.int .i64 11] 164)).alloc (.map #[] 0)).alloc (.cells #[bp (w.heap.size+2),bp (w.heap.size+3),.map (some (w.heap.size+4)),.nilIface,.pointer none] 119)
theorem grade54 (t:ByteArray) (w w':World) (h:Lk (gradeW0 t w) w'):Calls prog 54 #[.int .i64 20000,.int .i64 5000] w' fun e w1=>e=.returned (bp (w.heap.size+5))∧GS w.heap.size w1∧Lk (gradeW4 t w) w1:=by
 have hs:w'.heap.size=w.heap.size+2:=by rw [h.heap];simp [gradeW0]
 refine Calls.mono (qor 20000 5000 w') ?_
 rintro e w1 ⟨rfl,hl⟩
 rw [hs]at hl
 have hl2:Lk (gradeW4 t w) w1:=qat ((((h.lkA' _).lkA' _).lkA' _).lkA' _) hl
 refine⟨by rw [hs],GS.of (t:=t) ?_,hl2⟩
 rw [hl2.heap]
 unfold gradeW4 gradeW0
 rw [Below.heap_alloc _ _ _ (by simp;omega),Below.heap_alloc _ _ _ (by simp;omega),Below.heap_alloc _ _ _ (by simp;omega),Below.heap_alloc _ _ _ (by simp;omega),Below.heap_alloc _ _ _ (by simp)]
 exact heap_alloc_new _ _
theorem grade55 (t:ByteArray) (w w':World) (h:Lk (gradeW4 t w) w'):Calls prog 55 #[.int .i64 500,.int .i64 12] w' fun e w1=>e=.returned (bp (w.heap.size+6))∧GS w.heap.size w1∧w1.heap.size=w.heap.size+7∧Lk ((gradeW4 t w).alloc (.cells #[.int .i64 0,.int .i64 500,.int .i64 12] 164)) w1:=by
 have hs:w'.heap.size=w.heap.size+6:=by rw [h.heap];simp [gradeW4,gradeW0]
 refine Calls.mono (qi6 500 12 w') ?_
 rintro e w1 ⟨rfl,hl⟩
 have hl2:Lk ((gradeW4 t w).alloc (.cells #[.int .i64 0,.int .i64 500,.int .i64 12] 164)) w1:=qat (h.lkA' _) hl
 refine⟨by rw [hs],GS.of (t:=t) ?_,by rw [hl.heap];simp [hs],hl2⟩
 rw [hl2.heap]
 unfold gradeW4 gradeW0
 rw [Below.heap_alloc _ _ _ (by simp;omega),Below.heap_alloc _ _ _ (by simp;omega),Below.heap_alloc _ _ _ (by simp;omega),Below.heap_alloc _ _ _ (by simp;omega),Below.heap_alloc _ _ _ (by simp;omega),Below.heap_alloc _ _ _ (by simp)]
 exact heap_alloc_new _ _
def set9 (w:World) (b:Nat) (v0 v1 v2 v3 v4 v5 v6 v7 v8:Value):World:=(((((((((w.setCell ⟨b,0,none⟩ v0).setCell ⟨b,1,none⟩ v1).setCell ⟨b,2,none⟩ v2).setCell ⟨b,3,none⟩ v3).setCell ⟨b,4,none⟩ v4).setCell ⟨b,5,none⟩ v5).setCell ⟨b,6,none⟩ v6).setCell ⟨b,7,none⟩ v7).setCell ⟨b,8,none⟩ v8)
theorem qec {w:World} {b t:Nat} {fr:Nat×Nat} {x0 x1 x2 x3 x4 x5 x6 x7 x8 v0 v1 v2 v3 v4 v5 v6 v7 v8:Value} (h:w.heap[b]? =some (.cells #[x0,x1,x2,x3,x4,x5,x6,x7,x8] t fr)):(set9 w b v0 v1 v2 v3 v4 v5 v6 v7 v8).heap[b]? =some (.cells #[v0,v1,v2,v3,v4,v5,v6,v7,v8] t fr):=by
 unfold set9
 have h0:=qal (o:=0) (v:=v0) h
 rw [show(#[x0,x1,x2,x3,x4,x5,x6,x7,x8]:Array Value).setIfInBounds 0 v0=#[v0,x1,x2,x3,x4,x5,x6,x7,x8] by kernel_rfl]at h0
 have h1:=qal (o:=1) (v:=v1) h0
 rw [show(#[v0,x1,x2,x3,x4,x5,x6,x7,x8]:Array Value).setIfInBounds 1 v1=#[v0,v1,x2,x3,x4,x5,x6,x7,x8] by kernel_rfl]at h1
 have h2:=qal (o:=2) (v:=v2) h1
 rw [show(#[v0,v1,x2,x3,x4,x5,x6,x7,x8]:Array Value).setIfInBounds 2 v2=#[v0,v1,v2,x3,x4,x5,x6,x7,x8] by kernel_rfl]at h2
 have h3:=qal (o:=3) (v:=v3) h2
 rw [show(#[v0,v1,v2,x3,x4,x5,x6,x7,x8]:Array Value).setIfInBounds 3 v3=#[v0,v1,v2,v3,x4,x5,x6,x7,x8] by kernel_rfl]at h3
 have h4:=qal (o:=4) (v:=v4) h3
 rw [show(#[v0,v1,v2,v3,x4,x5,x6,x7,x8]:Array Value).setIfInBounds 4 v4=#[v0,v1,v2,v3,v4,x5,x6,x7,x8] by kernel_rfl]at h4
 have h5:=qal (o:=5) (v:=v5) h4
 rw [show(#[v0,v1,v2,v3,v4,x5,x6,x7,x8]:Array Value).setIfInBounds 5 v5=#[v0,v1,v2,v3,v4,v5,x6,x7,x8] by kernel_rfl]at h5
 have h6:=qal (o:=6) (v:=v6) h5
 rw [show(#[v0,v1,v2,v3,v4,v5,x6,x7,x8]:Array Value).setIfInBounds 6 v6=#[v0,v1,v2,v3,v4,v5,v6,x7,x8] by kernel_rfl]at h6
 have h7:=qal (o:=7) (v:=v7) h6
 rw [show(#[v0,v1,v2,v3,v4,v5,v6,x7,x8]:Array Value).setIfInBounds 7 v7=#[v0,v1,v2,v3,v4,v5,v6,v7,x8] by kernel_rfl]at h7
 have h8:=qal (o:=8) (v:=v8) h7
 rw [show(#[v0,v1,v2,v3,v4,v5,v6,v7,x8]:Array Value).setIfInBounds 8 v8=#[v0,v1,v2,v3,v4,v5,v6,v7,v8] by kernel_rfl]at h8
 exact h8
theorem qdr {n:Nat} {w w':World} {b:Nat} {v0 v1 v2 v3 v4 v5 v6 v7 v8:Value} (h:Below n w w') (hb:n≤b):Below n w (set9 w' b v0 v1 v2 v3 v4 v5 v6 v7 v8):=(qaq (qaq (qaq (qaq (qaq (qaq (qaq (qaq (qaq h hb) hb) hb) hb) hb) hb) hb) hb) hb)
theorem bl0' {w w':World} {n:Nat} (h:Lk w w') (hn:n≤w.heap.size):Below n w w':=(bl0 h).mono hn
structure GEnd (n:Nat) (c:Array Value) (st ce rw:Int) (w:World):Prop where
 rk:w.heap[n+7]? =some (.cells c 112 (0,0))
 st:Mt (n+2) st 20000 10 w
 ce:Mt (n+3) ce 5000 11 w
 rw:Mt (n+6) rw 500 12 w
 mb:∃a b d,w.heap[n+5]? =some (.cells #[bp (n+2),bp (n+3),a,b,d] 119 (0,0))
 rs:w.heap[n+1]? =some (.cells (resC 0 0 0 ⟨#[]⟩ 0 0 0) 29 (0,0))
theorem GEnd.lk {n:Nat} {c:Array Value} {st ce rw:Int} {w w':World} (g:GEnd n c st ce rw w) (h:Lk w w'):GEnd n c st ce rw w':=by
 obtain⟨a1,a2,a3,a4,a5,a6⟩:=g
 unfold Mt at a2 a3 a4
 rw [←h.heap]at a1 a2 a3 a4 a5 a6
 exact⟨a1,a2,a3,a4,a5,a6⟩
theorem GEnd.set {n o:Nat} {v:Value} {c:Array Value} {st ce rw:Int} {w:World} (g:GEnd n c st ce rw w):GEnd n (c.setIfInBounds o v) st ce rw (w.setCell ⟨n+7,o,none⟩ v):=by
 have k:∀b,b≠n+7→(w.setCell ⟨n+7,o,none⟩ v).heap[b]? =w.heap[b]?:=fun b hb=>qaa _ hb
 refine⟨qal g.rk,g.st.keep (k _ (by omega)),g.ce.keep (k _ (by omega)),g.rw.keep (k _ (by omega)),?_,by rw [k _ (by omega)];exact g.rs⟩
 obtain⟨a,b,d,h⟩:=g.mb
 exact⟨a,b,d,by rw [k _ (by omega)];exact h⟩
theorem qo8 (t:ByteArray) (w:World) (Q:Ending→World→Prop)
  (h56:∀w',Lk (gradeW t w) w'→Calls prog 56 #[bp (w.heap.size+7),.agg (subC t)] w' fun e w2=>e=.returned (.tuple #[])∧∃ve re pl va st ce rw,GEnd w.heap.size (runC (w.heap.size+5) (w.heap.size+6) ve re pl va) st ce rw w2∧Below w.heap.size w w2∧∀w3,Below w.heap.size w w3→Q (.returned (.agg (resC ve re pl va st ce rw))) w3):
  Calls prog 37 #[.agg (subC t)] w Q:=by
 have H56:=hZ h56
 have M54:=hZ (grade54 t w)
 have M55:=hZ (grade55 t w)
 have g0:GS w.heap.size (gradeW0 t w):=GS.of (t:=t) (by unfold gradeW0;rw [Below.heap_alloc _ _ _ (by simp)];exact heap_alloc_new _ _)
 obtain⟨c6,c8,c7⟩:=g0
 unfold gradeW0 at c6 c7 c8
 clear h56
 show Calls prog 37 #[.agg #[.string t,.slice none 0 0,.slice none 0 0,.slice none 0 0,.slice none 0 0,.int .i64 0,.int .i64 20000,.int .i64 500,.int .i64 5000,.int .i64 2000]] w Q
 go_enter func37,ntmps37
 go_wp2_with (fail)
 go_region_held2 (fun w'=>w'.cell? ⟨w.heap.size,6,none⟩=some (.int .i64 20000)∧w'.cell? ⟨w.heap.size,8,none⟩=some (.int .i64 5000)∧w'.cell? ⟨w.heap.size,7,none⟩=some (.int .i64 500)) (first|(exact⟨c6,c8,c7⟩)|(exact HS1.out)|(exact HS2.out)|go_keep)
  (first
   |(go_at_call 54;refine(M54.out _ (by exact⟨rfl,rfl,rfl,rfl⟩)).mono ?_;rintro e w1 ⟨rfl,hs,hl⟩;have HS1:=hZ hs;have HL1:=hZ hl;clear hs hl)
   |(go_at_call 55;refine(M55.out _ (qat HL1.out (by exact⟨rfl,rfl,rfl,rfl⟩))).mono ?_;rintro e w2 ⟨rfl,hs,hz,hl⟩;have HS2:=hZ hs;have HL2:=hZ hl;clear hs hl))
 have hLV:Lk (gradeW t w) (w2.alloc (.cells #[bp (w.heap.size+5),bp (w.heap.size+6),.int .i64 0,.int .i64 0,.int .i64 0,.string ⟨#[]⟩,.string ⟨#[]⟩,.int .i64 0,.int .i64 0,.int .i64 0,.slice none 0 0] 112)):=HL2.out.lkA' _
 generalize (w2.alloc (.cells #[bp (w.heap.size+5),bp (w.heap.size+6),.int .i64 0,.int .i64 0,.int .i64 0,.string ⟨#[]⟩,.string ⟨#[]⟩,.int .i64 0,.int .i64 0,.int .i64 0,.slice none 0 0] 112))=V at hLV⊢
 have hV0:V.heap[w.heap.size]? =some (.cells (subC t) 34 (0,0)):=by
  rw [hLV.heap]
  unfold gradeW
  rw [Below.heap_alloc _ _ _ (by simp;omega),Below.heap_alloc _ _ _ (by simp;omega),Below.heap_alloc _ _ _ (by simp;omega),Below.heap_alloc _ _ _ (by simp;omega),Below.heap_alloc _ _ _ (by simp;omega),Below.heap_alloc _ _ _ (by simp;omega),Below.heap_alloc _ _ _ (by simp)]
  exact heap_alloc_new _ _
 have v0:V.cell? ⟨w.heap.size,0,none⟩=some (.string t):=by simp only [World.cell?,hV0];rfl
 have v1:V.cell? ⟨w.heap.size,1,none⟩=some (.slice none 0 0):=by simp only [World.cell?,hV0];rfl
 have v2:V.cell? ⟨w.heap.size,2,none⟩=some (.slice none 0 0):=by simp only [World.cell?,hV0];rfl
 have v3:V.cell? ⟨w.heap.size,3,none⟩=some (.slice none 0 0):=by simp only [World.cell?,hV0];rfl
 have v4:V.cell? ⟨w.heap.size,4,none⟩=some (.slice none 0 0):=by simp only [World.cell?,hV0];rfl
 have v5:V.cell? ⟨w.heap.size,5,none⟩=some (.int .i64 0):=by simp only [World.cell?,hV0];rfl
 have v6:V.cell? ⟨w.heap.size,6,none⟩=some (.int .i64 20000):=by simp only [World.cell?,hV0];rfl
 have v7:V.cell? ⟨w.heap.size,7,none⟩=some (.int .i64 500):=by simp only [World.cell?,hV0];rfl
 have v8:V.cell? ⟨w.heap.size,8,none⟩=some (.int .i64 5000):=by simp only [World.cell?,hV0];rfl
 have v9:V.cell? ⟨w.heap.size,9,none⟩=some (.int .i64 2000):=by simp only [World.cell?,hV0];rfl
 have HLV:=hZ hLV
 clear hLV hV0 c6 c7 c8 M54 M55
 go_wp2_with (go_at_call 56;refine(H56.out _ (qat HLV.out (by exact⟨rfl,rfl,rfl,rfl⟩))).mono ?_;rintro e w3 ⟨rfl,ve,re,pl,va,st,ce,rw,hG,hB,hK⟩;refine Hid.out ?_)
 have r0:w3.cell? ⟨w.heap.size+7,0,none⟩=some (bp (w.heap.size+5)):=by simp only [World.cell?,hG.rk];rfl
 have r1:w3.cell? ⟨w.heap.size+7,1,none⟩=some (bp (w.heap.size+6)):=by simp only [World.cell?,hG.rk];rfl
 obtain⟨ma,mb',md,hmb⟩:=hG.mb
 have m0:w3.cell? ⟨w.heap.size+5,0,none⟩=some (bp (w.heap.size+2)):=by simp only [World.cell?,hmb];rfl
 have m1:w3.cell? ⟨w.heap.size+5,1,none⟩=some (bp (w.heap.size+3)):=by simp only [World.cell?,hmb];rfl
 have HG:=hZ hG
 have HB:=hZ hB
 have HK:=hZ hK
 clear hG hB hK hmb v0 v1 v2 v3 v4 v5 v6 v7 v8 v9 HLV H56
 refine hZ ?_
 go_wp2_with (go_at_call 57;refine(qil _ _ _ _ _ HG.out.st).mono ?_;rintro e w4 ⟨rfl,hl⟩;refine Hid.out ?_)
 have hG4:=HG.out.lk hl
 have HBl4:=hZ (HB.out.trans (bl0' hl HB.out.size))
 have z7:w4.cell? ⟨w.heap.size+7,7,none⟩=some (.int .i64 0):=by simp only [World.cell?,hG4.rk];rfl
 have f4:∀o,w4.frozen? ⟨w.heap.size+7,o,none⟩=false:=fun o=>by simp [World.frozen?,hG4.rk]
 have hGs4:=hG4.set (o:=7) (v:=.int .i64 st)
 have HBs4:=hZ (qaq HBl4.out (b:=w.heap.size+7) (k:=7) (v:=.int .i64 st) (by omega))
 clear HBl4 hG4 hl r0 r1 m0 m1 HG HB
 refine hZ ?_
 obtain⟨W4,hW⟩:∃W,W=w4.setCell ⟨w.heap.size+7,7,none⟩ (.int .i64 st):=⟨_,rfl⟩
 rw [←hW]at hGs4 HBs4
 have r0:W4.cell? ⟨w.heap.size+7,0,none⟩=some (bp (w.heap.size+5)):=by simp only [World.cell?,hGs4.rk];rfl
 obtain⟨ma,mb',md,hmb⟩:=hGs4.mb
 have m1:W4.cell? ⟨w.heap.size+5,1,none⟩=some (bp (w.heap.size+3)):=by simp only [World.cell?,hmb];rfl
 have HG4:=hZ hGs4
 clear hGs4 hmb
 rw [hW]at r0 m1
 have HW4:=hZ hW
 clear hW
 go_wp2_with (go_at_call 57;rw [←HW4.out];refine(qil _ _ _ _ _ HG4.out.ce).mono ?_;rintro e w5 ⟨rfl,hl⟩;refine Hid.out ?_)
 have hG5:=HG4.out.lk hl
 have HBl5:=hZ (HBs4.out.trans (bl0' hl HBs4.out.size))
 have z8:w5.cell? ⟨w.heap.size+7,8,none⟩=some (.int .i64 0):=by simp only [World.cell?,hG5.rk];rfl
 have f5:∀o,w5.frozen? ⟨w.heap.size+7,o,none⟩=false:=fun o=>by simp [World.frozen?,hG5.rk]
 have hGs5:=hG5.set (o:=8) (v:=.int .i64 ce)
 have HBs5:=hZ (qaq HBl5.out (b:=w.heap.size+7) (k:=8) (v:=.int .i64 ce) (by omega))
 clear HBl5 hG5 hl r0 m1 HG4 HBs4 z7 f4 HW4
 refine hZ ?_
 obtain⟨W5,hW⟩:∃W,W=w5.setCell ⟨w.heap.size+7,8,none⟩ (.int .i64 ce):=⟨_,rfl⟩
 rw [←hW]at hGs5 HBs5
 have r1:W5.cell? ⟨w.heap.size+7,1,none⟩=some (bp (w.heap.size+6)):=by simp only [World.cell?,hGs5.rk];rfl
 have HG5:=hZ hGs5
 clear hGs5
 rw [hW]at r1
 have HW5:=hZ hW
 clear hW
 go_wp2_with (go_at_call 57;rw [←HW5.out];refine(qil _ _ _ _ _ HG5.out.rw).mono ?_;rintro e w6 ⟨rfl,hl⟩;refine Hid.out ?_)
 have hG6:=HG5.out.lk hl
 have HBl6:=hZ (HBs5.out.trans (bl0' hl HBs5.out.size))
 have z9:w6.cell? ⟨w.heap.size+7,9,none⟩=some (.int .i64 0):=by simp only [World.cell?,hG6.rk];rfl
 have f6:∀o,w6.frozen? ⟨w.heap.size+7,o,none⟩=false:=fun o=>by simp [World.frozen?,hG6.rk]
 have hGs6:=hG6.set (o:=9) (v:=.int .i64 rw)
 have HBs6:=hZ (qaq HBl6.out (b:=w.heap.size+7) (k:=9) (v:=.int .i64 rw) (by omega))
 clear HBl6 hG6 hl r1 HG5 HBs5 z8 f5 HW5
 refine hZ ?_
 obtain⟨W6,hW⟩:∃W,W=w6.setCell ⟨w.heap.size+7,9,none⟩ (.int .i64 rw):=⟨_,rfl⟩
 rw [←hW]at hGs6 HBs6
 have hrk:=hGs6.rk
 have hrs:=hGs6.rs
 have hfz:∀o,W6.frozen? ⟨w.heap.size+1,o,none⟩=false:=fun o=>by simp [World.frozen?,hrs]
 have a0:W6.cell? ⟨w.heap.size+7,2,none⟩=some (.int .i64 ve):=by simp only [World.cell?,hrk];rfl
 have a1:W6.cell? ⟨w.heap.size+7,3,none⟩=some (.int .i64 re):=by simp only [World.cell?,hrk];rfl
 have a2:W6.cell? ⟨w.heap.size+7,4,none⟩=some (.int .i64 pl):=by simp only [World.cell?,hrk];rfl
 have a3:W6.cell? ⟨w.heap.size+7,5,none⟩=some (.string va):=by simp only [World.cell?,hrk];rfl
 have a4:W6.cell? ⟨w.heap.size+7,6,none⟩=some (.string ⟨#[]⟩):=by simp only [World.cell?,hrk];rfl
 have a5:W6.cell? ⟨w.heap.size+7,7,none⟩=some (.int .i64 st):=by simp only [World.cell?,hrk];rfl
 have a6:W6.cell? ⟨w.heap.size+7,8,none⟩=some (.int .i64 ce):=by simp only [World.cell?,hrk];rfl
 have a7:W6.cell? ⟨w.heap.size+7,9,none⟩=some (.int .i64 rw):=by simp only [World.cell?,hrk];rfl
 have a8:W6.cell? ⟨w.heap.size+7,10,none⟩=some (.slice none 0 0):=by simp only [World.cell?,hrk];rfl
 have b0:W6.cell? ⟨w.heap.size+1,0,none⟩=some (.int .i64 0):=by simp only [World.cell?,hrs];rfl
 have b1:W6.cell? ⟨w.heap.size+1,1,none⟩=some (.int .i64 0):=by simp only [World.cell?,hrs];rfl
 have b2:W6.cell? ⟨w.heap.size+1,2,none⟩=some (.int .i64 0):=by simp only [World.cell?,hrs];rfl
 have b3:W6.cell? ⟨w.heap.size+1,3,none⟩=some (.string ⟨#[]⟩):=by simp only [World.cell?,hrs];rfl
 have b4:W6.cell? ⟨w.heap.size+1,4,none⟩=some (.string ⟨#[]⟩):=by simp only [World.cell?,hrs];rfl
 have b5:W6.cell? ⟨w.heap.size+1,5,none⟩=some (.int .i64 0):=by simp only [World.cell?,hrs];rfl
 have b6:W6.cell? ⟨w.heap.size+1,6,none⟩=some (.int .i64 0):=by simp only [World.cell?,hrs];rfl
 have b7:W6.cell? ⟨w.heap.size+1,7,none⟩=some (.int .i64 0):=by simp only [World.cell?,hrs];rfl
 have b8:W6.cell? ⟨w.heap.size+1,8,none⟩=some (.slice none 0 0):=by simp only [World.cell?,hrs];rfl
 have HRs:=hZ hrs
 clear hrs hrk hGs6
 rw [hW]at a0 a1 a2 a3 a4 a5 a6 a7 a8 b0 b1 b2 b3 b4 b5 b6 b7 b8 hfz
 have HW6:=hZ hW
 clear hW
 go_wp2
 rw [←HW6.out]
 have hfin:=qec (v0:=.int .i64 ve) (v1:=.int .i64 re) (v2:=.int .i64 pl) (v3:=.string va) (v4:=.string ⟨#[]⟩) (v5:=.int .i64 st) (v6:=.int .i64 ce) (v7:=.int .i64 rw) (v8:=.slice none 0 0) HRs.out
 have hbel:=qdr (v0:=.int .i64 ve) (v1:=.int .i64 re) (v2:=.int .i64 pl) (v3:=.string va) (v4:=.string ⟨#[]⟩) (v5:=.int .i64 st) (v6:=.int .i64 ce) (v7:=.int .i64 rw) (v8:=.slice none 0 0) HBs6.out (Nat.le_succ w.heap.size)
 unfold set9 at hfin hbel
 generalize (((((((((W6.setCell ⟨w.heap.size+1,0,none⟩ (.int .i64 ve)).setCell ⟨w.heap.size+1,1,none⟩ (.int .i64 re)).setCell ⟨w.heap.size+1,2,none⟩ (.int .i64 pl)).setCell ⟨w.heap.size+1,3,none⟩ (.string va)).setCell ⟨w.heap.size+1,4,none⟩ (.string ⟨#[]⟩)).setCell ⟨w.heap.size+1,5,none⟩ (.int .i64 st)).setCell ⟨w.heap.size+1,6,none⟩ (.int .i64 ce)).setCell ⟨w.heap.size+1,7,none⟩ (.int .i64 rw)).setCell ⟨w.heap.size+1,8,none⟩ (.slice none 0 0))=Z at hfin hbel⊢
 refine bodyPost_ret (results_cell_row (p:=2) (ty:=29) (by kernel_rfl) _ _ (w.heap.size+1) 29 (resC ve re pl va st ce rw) (0,0) _ rfl hfin underlying29 rfl (by kernel_rfl)) rfl ?_
 exact HK.out _ hbel
end
section
open Sc
def ghost0 (n:Nat) (w:World):Gh:={I:=fun b=>if n+11≤b then w.heap[b]? else none,J:=[],E:=[],B:=[],P:=fun p=>w.heap.size+p.off,K:=fun _=>0,mb:=n+5,sb:=n+2,cb:=n+3,mp:=n+4,W:=w,F:=fun b=>b<n+2∨b=n+7∨b=n+8∨b=n+9}
theorem qcs (n:Nat) (w:World):(ghost0 n w).mut=[n+5,n+2,n+3,n+4]:=rfl
theorem qpa {n:Nat} {w:World} {S:Sub} (hS:S.fuel=20000∧S.quota=5000) (h2:Mt (n+2) 0 20000 10 w) (h3:Mt (n+3) 0 5000 11 w) (h4:w.heap[n+4]? =some (.map #[] 0)) (h5:w.heap[n+5]? =some (.cells #[bp (n+2),bp (n+3),.map (some (n+4)),.nilIface,.pointer none] 119 (0,0))) (hsz:n+11≤w.heap.size):Inv (ghost0 n w) S {} w:=by
 have hm:∀{b:Nat},b∈(ghost0 n w).mut→n+2≤b∧b≤n+5:=fun {b} hb=>by
  rw [qcs]at hb
  simp only [List.mem_cons,List.not_mem_nil,or_false]at hb
  omega
 have hlow:∀{b:Nat},b<n+11→(ghost0 n w).I b=none:=fun {b} hb=>if_neg (by omega)
 refine⟨fun {b o} hb=>?_,?_,fun {b} hb=>hlow (by have:=hm hb;omega),fun {b} hb=>by have:=hm hb;omega,?_,?_,?_,?_,⟨_,_,h5,.nil⟩,⟨#[],0,h4,rfl⟩,fun {s b} hb=>(by cases hb),fun {s v} hv=>(by cases hv),List.nodup_nil,fun {i vs e} he=>(by simp at he),rfl,rfl,List.nodup_nil,fun {b} hb=>(by cases hb),⟨rfl,rfl,rfl⟩,fun {b} hb=>⟨rfl,?_⟩,fun {b} hb hF=>?_,fun {b} hb=>hlow ?_⟩
 ·have hb:(if n+11≤b then w.heap[b]? else none)=some o:=hb
  by_cases h:n+11≤b
  ·rw [if_pos h]at hb;exact hb
  ·rw [if_neg h]at hb;cases hb
 ·rw [qcs];simp
 ·rw [hS.1];exact h2
 ·rw [hS.2];exact h3
 ·rw [hS.1];exact⟨by simp,by omega⟩
 ·rw [hS.2];exact⟨by simp,by omega⟩
 ·have hb:b<n+2∨b=n+7∨b=n+8∨b=n+9:=hb
  omega
 ·have hF:b<n+2∨b=n+7∨b=n+8∨b=n+9:=hF
  have:=hm hb
  omega
 ·have hb:b<n+2∨b=n+7∨b=n+8∨b=n+9:=hb
  omega
end
section
open Sc
theorem feLen (x:Rd.El×Int):(Rd.Fe.cells x).length=7:=rfl
theorem qft:∀(l:List (Rd.El×Int)) (i j:Nat) (x:Rd.El×Int),l[i]? =some x→j<7→(l.flatMap Rd.Fe.cells)[i*7+j]? =(Rd.Fe.cells x)[j]?
 | [],i,j,x,h,_=>by simp at h
 |y::r,0,j,x,h,hj=>by
  obtain rfl:y=x:=by simpa using h
  rw [List.flatMap_cons,List.getElem?_append_left (by rw [feLen];omega)]
  simp
 |y::r,i+1,j,x,h,hj=>by
  rw [List.flatMap_cons,List.getElem?_append_right (by rw [feLen];omega),feLen]
  have:(i+1)*7+j-7=i*7+j:=by omega
  rw [this]
  exact qft r i j x (by simpa using h) hj
theorem row_of {w:World} {lo:Nat} {a:Option Addr} {cap:Nat} {es:List (Rd.El×Int)} (h:w.ownsRow lo 136 7 (.slice a es.length cap) es.length (es.flatMap Rd.Fe.cells)) (k:Nat) (x:Rd.El×Int) (hx:es[k]? =some x):
  ∃g arr,a=some ⟨g,0,none⟩∧lo≤g∧w.heap[g]? =some (.cells arr 136 (0,0))∧(∀j,j<6→arr[0+k*7+j]? =(dlOf x.1).cells[j]?)∧arr[0+k*7+6]? =some (.int .i64 x.2):=by
 have hk:k<es.length:=(List.getElem?_eq_some_iff.1 hx).1
 rcases h.2 with⟨_,h0⟩|⟨g,cp,cur,hv,hb,hg,hn,hm,hsz,htk⟩
 ·omega
 ·have ha:a=some ⟨g,0,none⟩:=by injection hv
  have at7:∀j,j<7→cur[0+k*7+j]? =(Rd.Fe.cells x)[j]?:=fun j hj=>by
   have e:=qft es k j x hx hj
   rw [←htk,List.getElem?_take]at e
   rw [Nat.zero_add]
   split at e
   ·simpa using e
   ·omega
  refine⟨g,cur,ha,hb,hg,fun j hj=>?_,at7 6 (by omega)⟩
  rw [at7 j (by omega)]
  show(x.1.cells++[.int .i64 x.2])[j]? =_
  rw [List.getElem?_append_left (by show j<6;exact hj)]
  have e:x.1.cells=(dlOf x.1).cells.toList:=rfl
  rw [e,Array.getElem?_toList]
theorem GV.below {n:Nat} {w w':World} (h:Rd.GV w) (hb:Below n w w') (hn:6≤n):Rd.GV w':=by
 obtain⟨tp,p,h⟩:=h
 refine⟨tp,p,?_⟩
 unfold World.var? at h⊢
 rw [Rd.errRange_no]at h⊢
 simp only [Option.bind_some]at h⊢
 rw [hb.block 5 (by omega)];exact h
end
section
open Sc
structure Lay (t:ByteArray) (w W:World):Prop where
 lo:Below w.heap.size w W
 rs:W.heap[w.heap.size+1]? =some (.cells (resC 0 0 0 ⟨#[]⟩ 0 0 0) 29 (0,0))
 sb:Mt (w.heap.size+2) 0 20000 10 W
 cb:Mt (w.heap.size+3) 0 5000 11 W
 mp:W.heap[w.heap.size+4]? =some (.map #[] 0)
 mb:W.heap[w.heap.size+5]? =some (.cells #[bp (w.heap.size+2),bp (w.heap.size+3),.map (some (w.heap.size+4)),.nilIface,.pointer none] 119 (0,0))
 rb:Mt (w.heap.size+6) 0 500 12 W
 rk:W.heap[w.heap.size+7]? =some (.cells (runC (w.heap.size+5) (w.heap.size+6) 0 0 0 ⟨#[]⟩) 112 (0,0))
 bx:W.heap[w.heap.size+8]? =some (.cells #[bp (w.heap.size+7)] 106 (0,0))
 sub:W.heap[w.heap.size+9]? =some (.cells (subC t) 34 (0,0))
 sz:w.heap.size+11≤W.heap.size
theorem Lay.below {t:ByteArray} {w W W':World} (l:Lay t w W) (h:Below (w.heap.size+11) W W'):Lay t w W':=by
 have k:∀b,b<w.heap.size+11→W'.heap[b]? =W.heap[b]?:=fun b hb=>h.block b hb
 exact⟨l.lo.trans (h.mono (by omega)),by rw [k _ (by omega)];exact l.rs,l.sb.keep (k _ (by omega)),l.cb.keep (k _ (by omega)),by rw [k _ (by omega)];exact l.mp,by rw [k _ (by omega)];exact l.mb,l.rb.keep (k _ (by omega)),by rw [k _ (by omega)];exact l.rk,by rw [k _ (by omega)];exact l.bx,by rw [k _ (by omega)];exact l.sub,Nat.le_trans l.sz h.size⟩
theorem lay_of {t:ByteArray} {w w1 w2:World} (h1:Lk (gradeW t w) w1) (h2:Lk (((w1.alloc (.cells #[bp (w.heap.size+7)] 106)).alloc (.cells (subC t) 34)).alloc (.cells (subC t) 34)) w2):Lay t w w2:=by
 have hw:w2.heap=(((((((((((w.heap.push (.cells (subC t) 34)).push (.cells (resC 0 0 0 ⟨#[]⟩ 0 0 0) 29)).push (.cells #[.int .i64 0,.int .i64 20000,.int .i64 10] 164)).push (.cells #[.int .i64 0,.int .i64 5000,.int .i64 11] 164)).push (.map #[] 0)).push (.cells #[bp (w.heap.size+2),bp (w.heap.size+3),.map (some (w.heap.size+4)),.nilIface,.pointer none] 119)).push (.cells #[.int .i64 0,.int .i64 500,.int .i64 12] 164)).push (.cells (runC (w.heap.size+5) (w.heap.size+6) 0 0 0 ⟨#[]⟩) 112)).push (.cells #[bp (w.heap.size+7)] 106)).push (.cells (subC t) 34)).push (.cells (subC t) 34)):=by
  rw [h2.heap]
  show((w1.heap.push _).push _).push _=_
  rw [h1.heap]
  rfl
 have sz:w2.heap.size=w.heap.size+11:=by rw [hw];simp
 refine⟨⟨h2.os.trans h1.os,h2.tape.trans h1.tape,h2.output.trans h1.output,by omega,fun k hk=>?_⟩,?_,?_,?_,?_,?_,?_,?_,?_,?_,by omega⟩
 ·rw [hw];simp only [Array.getElem?_push,Array.size_push];repeat rw [if_neg (by omega)]
 all_goals(try unfold Mt);rw [hw];simp only [Array.getElem?_push,Array.size_push]
 ·repeat (first|rw [if_neg (by omega)]|(rw [if_pos (by first|trivial|omega)];done))
 ·repeat (first|rw [if_neg (by omega)]|(rw [if_pos (by first|trivial|omega)];done))
 ·repeat (first|rw [if_neg (by omega)]|(rw [if_pos (by first|trivial|omega)];done))
 ·repeat (first|rw [if_neg (by omega)]|(rw [if_pos (by first|trivial|omega)];done))
 ·repeat (first|rw [if_neg (by omega)]|(rw [if_pos (by first|trivial|omega)];done))
 ·repeat (first|rw [if_neg (by omega)]|(rw [if_pos (by first|trivial|omega)];done))
 ·repeat (first|rw [if_neg (by omega)]|(rw [if_pos (by first|trivial|omega)];done))
 ·repeat (first|rw [if_neg (by omega)]|(rw [if_pos (by first|trivial|omega)];done))
 ·repeat (first|rw [if_neg (by omega)]|(rw [if_pos (by first|trivial|omega)];done))
end
section
open Sc
theorem GEnd.alloc {n:Nat} {c:Array Value} {st ce rw:Int} {w:World} (g:GEnd n c st ce rw w) (o:Obj):GEnd n c st ce rw (w.alloc o):=by
 have k:∀{b:Nat} {x:Obj},w.heap[b]? =some x→(w.alloc o).heap[b]? =w.heap[b]?:=fun {b x} h=>Below.heap_alloc _ _ _ (Array.getElem?_eq_some_iff.1 h).1
 obtain⟨a1,a2,a3,a4,⟨x,y,z,a5⟩,a6⟩:=g
 exact⟨(k a1).trans a1,a2.keep (k a2),a3.keep (k a3),a4.keep (k a4),⟨x,y,z,(k a5).trans a5⟩,(k a6).trans a6⟩
def RunIs (r:(Option Nat×Nat)×Option Vl×Xs×Mc) (ve pl:Int) (va:ByteArray) (st ce rw:Int):Prop:=match r with
 |((some vd,p),_,x,m)=>ve=vd∧pl=p∧(vd≠14→va=⟨#[]⟩)∧(vd=14→va=⟨m.raised.toArray⟩∨va=⟨#[]⟩)∧st=m.steps∧ce=m.cells∧rw=x.count
 |((none,_),v,x,m)=>ve=1∧pl=0∧va=lastV v∧st=m.steps∧ce=m.cells∧rw=x.count
def RunEnd (n:Nat) (w:World) (r:(Option Nat×Nat)×Option Vl×Xs×Mc) (w9:World):Prop:=∃ve pl va st ce rw,GEnd n (runC (n+5) (n+6) ve 0 pl va) st ce rw w9∧Below n w w9∧RunIs r ve pl va st ce rw
theorem send_of {n:Nat} {_t:ByteArray} {w w7 w8:World} {S:Sub} {G:Gh} {fs:List (Dt×Nat)} {r:(Option Nat×Nat)×Option Vl×Xs×Mc} {e:Ending} (hn:w.heap.size=n) (hS:S.fuel=20000∧S.quota=5000∧S.rewrites=500) (hG:G.mb=n+5∧G.sb=n+2∧G.cb=n+3) (hF:∀b,b<n+2∨b=n+7∨b=n+8∨b=n+9→G.F b)
  (hlo:∀b,b<n→w7.heap[b]? =w.heap[b]?) (ho:w7.os=w.os∧w7.tape=w.tape∧w7.output=w.output) (hrs:w7.heap[n+1]? =some (.cells (resC 0 0 0 ⟨#[]⟩ 0 0 0) 29 (0,0))) (hbx:w7.heap[n+8]? =some (.cells #[bp (n+7)] 106 (0,0)))
  (h:DPost G S w7 (n+7) (n+6) fs r e w8):SEnd (n+8) (n+7) (n+5) (n+6) (RunEnd n w r) e w8:=by
 obtain⟨g1,g2,g3⟩:=hG
 obtain⟨s1,s2,s3⟩:=hS
 have key:∀{m:Mc} {x:Xs} {pl:Int} {va:ByteArray},DEnd G S w7 (n+7) (n+6) m x pl va w8→GEnd n (runC (n+5) (n+6) 0 0 pl va) m.steps m.cells x.count w8∧Below n w w8∧w8.cell? ⟨n+8,0,none⟩=some (bp (n+7)):=fun {m x pl va} d=>by
  obtain⟨d1,d2,d3,d4,d5,d6,gv,wp,d7⟩:=d
  rw [g1]at d1
  rw [g2,s1]at d2
  rw [g3,s2]at d3
  rw [s3]at d4
  rw [g1,g2,g3]at d7
  have hsz:n+7<w8.heap.size:=(Array.getElem?_eq_some_iff.1 d1).1
  refine⟨⟨d1,d2,d3,d4,⟨_,_,_,d7⟩,by rw [d5 (hF _ (by omega)) (by omega)];exact hrs⟩,⟨d6.1.trans ho.1,d6.2.1.trans ho.2.1,d6.2.2.trans ho.2.2,by omega,fun b hb=>by rw [d5 (hF _ (by omega)) (by omega)];exact hlo b hb⟩,?_⟩
  have:w8.heap[n+8]? =some (.cells #[bp (n+7)] 106 (0,0)):=by rw [d5 (hF _ (by omega)) (by omega)];exact hbx
  simp only [World.cell?,this];rfl
 have bset:∀{W:World} {o:Nat} {v:Value},Below n w W→Below n w (W.setCell ⟨n+7,o,none⟩ v):=fun h=>qaq h (by omega)
 have blk:∀{W W':World},Below n w W→Lk W W'→Below n w W':=fun h hl=>h.trans (bl0' hl (by have:=h.size;omega))
 match r,h with
 |((some vd,p),_,x,m),⟨raised,va,he,h14,h14',d⟩=>
  obtain⟨k1,k2,k3⟩:=key d
  refine .inl ⟨vd,raised,p,va,he,k3,k1.rk,fun w9 hl=>⟨vd,p,raised,m.steps,m.cells,x.count,?_,?_,rfl,rfl,h14,h14',rfl,rfl,rfl⟩⟩
  ·exact(((k1.alloc _).set (o:=2) (v:=.int .i64 vd)).set (o:=5) (v:=.string raised)).lk hl
  ·exact blk (bset (bset (k2.alloc (by have:=k2.size;omega) _))) hl
 |((none,_),v,x,m),⟨pl,he,d⟩=>
  obtain⟨k1,k2,k3⟩:=key d
  refine .inr ⟨pl,lastV v,he,k3,k1.rk,fun w9 hl=>⟨1,0,lastV v,m.steps,m.cells,x.count,?_,?_,rfl,rfl,rfl,rfl,rfl,rfl⟩⟩
  ·exact(((k1.set (o:=2) (v:=.int .i64 1)).set (o:=4) (v:=.int .i64 0)).alloc _).lk hl
  ·exact blk ((bset (bset k2)).alloc (by have:=k2.size;simp only [qaf];omega) _) hl
end
section
open Sc
def mStart:Mc:={({}:Mc)with glob:=puts world0 (globs Pm.most)}
theorem Lay.ks {t:ByteArray} {w W:World} (l:Lay t w W):Ks (w.heap.size+8) (w.heap.size+7) (w.heap.size+5) t W:=by
 refine⟨?_,?_,?_,?_,?_⟩
 ·simp only [World.cell?,l.bx];rfl
 ·simp only [World.cell?,l.sub];rfl
 ·simp only [World.cell?,l.sub];rfl
 ·simp only [World.cell?,l.sub];rfl
 ·simp only [World.cell?,l.rk];rfl
theorem syn0 {S:Sub} (X:Xe) (G:Gh) (w:World) (x:Xs) (F:Nat) (d d':Dt) (x':Xs) (i:XInv K0 X G S x [] w) (h:rewr S F x [] d=(.ok d',x')) (hd:¬isSyn d):¬isSyn d':=by
 obtain⟨_,_,_,_,_,hm⟩:=i.mc
 have e:=rewr0 (S:=S) (sc:=[]) (d:=d) (F:=F) (mc0 hm) (by rw [h];exact nofun)
 rw [h]at e
 obtain⟨rfl,_⟩:d'=d∧x'=x:=by simpa using e
 exact hd
theorem names0:∀p,p∈world0→p.1∉Pm.most.map Pm.name:=by decide
theorem sub_of {t:ByteArray} {w w1:World} {S:Sub} (hS:S.fuel=20000∧S.quota=5000∧S.rewrites=500) (hT:GT w) (hV:Rd.GV w) (h6:6≤w.heap.size) (hs:t.size≤1200) (fs:List (Dt×Nat)) (rr:List UInt8) (htop:Py.topP (2*t.size+2) (Rd.L t 0)=.inr (fs,rr)) (hns:∀f,f∈fs→¬isSyn f.1)
  (hne:(deal S (fs.map fun f=>(f.1,t.size-f.2)) none {} mStart).1.1≠some 0) (hw:Lk (gradeW t w) w1):
  Calls prog 56 #[bp (w.heap.size+7),.agg (subC t)] w1 fun e w2=>e=.returned (.tuple #[])∧RunEnd w.heap.size w (deal S (fs.map fun f=>(f.1,t.size-f.2)) none {} mStart) w2:=by
 have hz1:w1.heap.size=w.heap.size+8:=by rw [hw.heap];simp [gradeW]
 refine qe6 (w.heap.size+7) (w.heap.size+5) (w.heap.size+6) t w1 _ (by omega) fun w2 hw2=>?_
 have lay:=lay_of hw hw2
 have hz2:w2.heap.size=w.heap.size+11:=by rw [hw2.heap];simp [hz1]
 rw [hz1]
 have hV2:Rd.GV w2:=GV.below hV lay.lo h6
 have hread:=Rd.text_any t w2 hs hV2 (by omega)
 rw [htop]at hread
 refine qmm (w.heap.size+7) t w2 _ (Calls.mono hread ?_)
 rintro e w3 ⟨hb3,es,a,cap,rfl,hown,hmem,hpl,hlen⟩
 rw [hz2]at hb3 hown hmem
 have lay3:=lay.below hb3
 refine⟨a,es.length,cap,rfl,lay3.ks,fun w4 hw4=>?_⟩
 have hb4:Below (w.heap.size+11) w3 w4:=bl0' hw4 lay3.sz
 have lay4:=lay3.below hb4
 have i0:Inv (ghost0 w.heap.size w4) S {} w4:=qpa ⟨hS.1,hS.2.1⟩ lay4.sb lay4.cb lay4.mp lay4.mb lay4.sz
 have p0:PSt (ghost0 w.heap.size w4) w4 S none [] 0 w4:=⟨_,i0,rfl,rfl,Mv.refl _ _,nofun⟩
 refine Calls.mono (qoc (ghost0 w.heap.size w4) w4 S (fun _=>rfl) p0) ?_
 rintro e w5 ⟨rfl,G5,i5,_,hB5,mv5,_⟩
 have F5:G5.F=fun b=>b<w.heap.size+2∨b=w.heap.size+7∨b=w.heap.size+8∨b=w.heap.size+9:=mv5.up.F
 have W5:G5.W=w4:=mv5.up.W
 have k5:∀b,b<w.heap.size+2∨b=w.heap.size+7∨b=w.heap.size+8∨b=w.heap.size+9→w5.heap[b]? =w4.heap[b]?:=fun b hb=>by
  have:=(i5.ff (b:=b) (by rw [F5];exact hb)).1
  rw [W5]at this;exact this
 have ks:∀W:World,(∀b,b<w.heap.size+2∨b=w.heap.size+7∨b=w.heap.size+8∨b=w.heap.size+9→W.heap[b]? =w4.heap[b]?)→Ks (w.heap.size+8) (w.heap.size+7) (w.heap.size+5) t W:=fun W hk=>by
  have q1:=(hk _ (.inr (.inr (.inl rfl)))).trans lay4.bx
  have q2:=(hk _ (.inr (.inr (.inr rfl)))).trans lay4.sub
  have q3:=(hk _ (.inr (.inl rfl))).trans lay4.rk
  refine⟨?_,?_,?_,?_,?_⟩
  ·simp only [World.cell?,q1];rfl
  ·simp only [World.cell?,q2];rfl
  ·simp only [World.cell?,q2];rfl
  ·simp only [World.cell?,q2];rfl
  ·simp only [World.cell?,q3];rfl
 refine⟨rfl,ks w5 k5,fun w6 hw6=>?_⟩
 have hmb5:G5.mb=w.heap.size+5:=mv5.up.le.mb
 have key:=qm9 (Inv.lk hw6 i5) (fun p hp=>by rw [hB5];exact names0 p hp)
 rw [hmb5]at key
 refine Calls.mono key ?_
 rintro e w7 ⟨rfl,G7,i7,_,mv7⟩
 have i7:Inv G7 S mStart w7:=i7
 have F7:G7.F=fun b=>b<w.heap.size+2∨b=w.heap.size+7∨b=w.heap.size+8∨b=w.heap.size+9:=mv7.up.F.trans F5
 have W7:G7.W=w4:=mv7.up.W.trans W5
 have k7:∀b,b<w.heap.size+2∨b=w.heap.size+7∨b=w.heap.size+8∨b=w.heap.size+9→w7.heap[b]? =w4.heap[b]?:=fun b hb=>by
  have:=(i7.ff (b:=b) (by rw [F7];exact hb)).1
  rw [W7]at this;exact this
 refine⟨rfl,ks w7 k7,fun w8 hw8=>?_⟩
 have i8:=Inv.lk hw8 i7
 have k8:∀b,b<w.heap.size+2∨b=w.heap.size+7∨b=w.heap.size+8∨b=w.heap.size+9→w8.heap[b]? =w4.heap[b]?:=fun b hb=>by rw [hw8.heap];exact k7 b hb
 have hle:(ghost0 w.heap.size w4).le G7:=mv5.up.le.trans mv7.up.le
 have s4:=lay4.sz
 have s46:w4.heap.size≤w6.heap.size:=by rw [hw6.heap];exact mv5.size
 have gI:∀b,w.heap.size+11≤b→∀o,w3.heap[b]? =some o→G7.I b=some o:=fun b hb o ho=>hle.I (by
  show(if w.heap.size+11≤b then w4.heap[b]? else none)=some o
  rw [if_pos hb,hw4.heap];exact ho)
 have hlf:es.length=fs.length:=by have:=congrArg List.length hpl;simpa using this
 have hwt:wtL (fs.map (·.1))≤12000:=by
  have h1:=topP_wt _ _ _ _ htop
  have h2:(Rd.L t 0).length=t.size:=by show(t.data.toList.drop 0).length=_;simp
  omega
 have hwm:∀f,f∈fs→wt f.1≤12000:=fun f hf=>Nat.le_trans (wt_mem (List.mem_map.2 ⟨f,hf,rfl⟩)) hwt
 have hlen':(fs.map fun f=>(f.1,t.size-f.2)).length=es.length:=by simp [hlf]
 have hexk:∀k,k<es.length→∃x f,es[k]? =some x∧fs[k]? =some f∧x.2=((t.size-f.2:Nat):Int):=fun k hk=>by
  have hk':k<fs.length:=by omega
  refine⟨es[k],fs[k],List.getElem?_eq_getElem hk,List.getElem?_eq_getElem hk',?_⟩
  have:=congrArg (fun l=>l[k]?) hpl
  simp only [List.getElem?_map,List.getElem?_eq_getElem hk,List.getElem?_eq_getElem hk',Option.map_some]at this
  injection this
 have key2:=deal_of (K:=K0) (qra S) (.inr syn0) G7 mStart w8 (w.heap.size+7) (w.heap.size+6) a cap (fs.map fun f=>(f.1,t.size-f.2)) (fun k=>match es[k]? with|some x=>dlOf x.1|none=>⟨0,0,false,⟨#[]⟩,0,none,0,0⟩) i8 (by rw [F7];exact .inr (.inl rfl)) (by omega) ?tw ?rb (by rw [hS.2.2];omega) ?rb' ?bk ?row ?dd ?mb (.inr ?ns) (by rw [hlen'];omega) hne
 case tw=>
  refine⟨fun b hb=>by rw [F7];exact .inl (by omega),?_⟩
  rw [W7]
  exact hT.keep (lay4.lo.block 0 (by omega))
 case rb=>
  rw [hS.2.2]
  refine lay4.rb.keep ?_
  have n0:w.heap.size+6∉(ghost0 w.heap.size w4).mut:=by rw [qcs];simp
  have n5:w.heap.size+6∉G5.mut:=fun h=>(mv5.mu h).elim n0 (fun h=>by omega)
  rw [hw8.heap,mv7.blk (by omega) n5,hw6.heap,mv5.blk (by omega) n0]
 case rb'=>
  have n0:w.heap.size+6∉(ghost0 w.heap.size w4).mut:=by rw [qcs];simp
  have n5:w.heap.size+6∉G5.mut:=fun h=>(mv5.mu h).elim n0 (fun h=>by omega)
  refine⟨?_,fun h=>(mv7.mu h).elim n5 (fun h=>by omega),by rw [F7];omega⟩
  rw [mv7.I (by omega),mv5.I (by omega)]
  exact if_neg (by omega)
 case bk=>
  have hm7:G7.mb=w.heap.size+5:=mv7.up.le.mb.trans hmb5
  rw [hm7,k8 _ (.inr (.inl rfl))];exact lay4.rk
 case row=>
  intro k hk
  rw [hlen']at hk
  obtain⟨x,f,hx,hf,hp⟩:=hexk k hk
  obtain⟨gg,arr,q1,q2,q3,q4,q5⟩:=row_of hown k x hx
  refine⟨gg,0,arr,q1,gI gg q2 _ q3,fun j hj=>?_,?_⟩
  ·simp only [hx];exact q4 j hj
  ·rw [q5,hp];simp [List.getElem?_map,hf]
 case dd=>
  intro k f hf
  rw [List.getElem?_map]at hf
  obtain⟨f0,hf0,rfl⟩:=Option.map_eq_some_iff.1 hf
  have hk:k<es.length:=by have:=(List.getElem?_eq_some_iff.1 hf0).1;omega
  obtain⟨x,f1,hx,hf1,_⟩:=hexk k hk
  rw [hf0]at hf1
  cases hf1
  simp only [hx]
  exact qke (fun g arr hg hq=>gI g hg _ hq) (hmem.all k x.1 f0.1 (by simp [hx]) (by simp [hf0])) (by have:=hwm f0 (List.mem_of_getElem? hf0);omega)
 case mb=>
  intro f hf
  obtain⟨f0,hf0,rfl⟩:=List.mem_map.1 hf
  have h1:=hwm f0 hf0
  have h2:=qfm f0.1
  show members f0.1≤_
  omega
 case ns=>
  intro f hf
  obtain⟨f0,hf0,rfl⟩:=List.mem_map.1 hf
  exact hns f0 hf0
 rw [hlen']at key2
 refine Calls.mono key2 ?_
 intro e w9 hd
 have hm7:G7.mb=w.heap.size+5:=mv7.up.le.mb.trans hmb5
 have o8:w8.os=w.os∧w8.tape=w.tape∧w8.output=w.output:=by
  have f:=i8.fo
  rw [W7]at f
  exact⟨f.1.trans lay4.lo.os,f.2.1.trans lay4.lo.tape,f.2.2.trans lay4.lo.output⟩
 exact send_of (_t:=t) rfl ⟨hS.1,hS.2.1,hS.2.2⟩ ⟨hm7,mv7.up.le.sb.trans mv5.up.le.sb,mv7.up.le.cb.trans mv5.up.le.cb⟩ (fun b hb=>by rw [F7];exact hb) (fun b hb=>by rw [k8 b (.inl (by omega))];exact lay4.lo.block b hb) o8 (by rw [k8 _ (.inl (by omega))];exact lay4.rs) (by rw [k8 _ (.inr (.inr (.inl rfl)))];exact lay4.bx) hd
end
end Go.Proofs.YtldaocpojcfljaaGreatDoor
