import Derived.Test.YtldaocpojcfljaaGreatDoorC25
import Derived.Sort.LoopGhostIn
import Derived.RangeFuncFrom
set_option maxRecDepth 100000
set_option maxHeartbeats 4000000
namespace Go.Proofs.YtldaocpojcfljaaGreatDoor
open Tryz hiding parts
open Go.RowKit Go.Shelf
section
open Sc
attribute [local go_sem] Oper.semAt_some
def WrSaid (l hi N:Nat) (J Jx:List UInt8→World→Prop) (H:Gh) (w:World) (v:Vl):Prop:=∀(n:Nat) (x:Value) (pre:List UInt8) (W:World),VRep H v x→Below hi w W→J pre W→pre.length+(Sc.wr v).length≤N→
 CallsIn Fence.wide n prog 90 #[x,.func (.yield l) #[] #[]] W fun e W'=>Yd hi J Jx w pre (Sc.wr v) e W'
def Im (H:Gh) (hi:Nat) (w:World):Prop:=∀b c t,H.I b=some (.cells c t (0,0))→w.heap[b]? =some (.cells c t (0,0))∧b<hi
theorem Im.cell {H:Gh} {hi:Nat} {w W:World} (h:Im H hi w) (hb:Below hi w W) {b:Nat} {c:Array Value} {t:Nat} (hi':H.I b=some (.cells c t (0,0))) (o:Nat):W.cell? ⟨b,o,none⟩=c[o]?:=by
 obtain⟨h1,h2⟩:=h b c t hi'
 simp [World.cell?,hb.block b h2,h1]
theorem GT.below {hi:Nat} {w W:World} (h:GT w) (hb:Below hi w W) (h6:6≤hi):GT W:=h.keep (hb.block 0 (by omega))
theorem VRep.wr_atom {H:Gh} {v:Vl} {t:Nat} {y:Value} (h:VRep H v (.iface t y)) (ht:t≠246):Sc.wr v=Sc.atom v∧(Sc.atom v).length≤2000000000∧∀id a b,v≠.pair id a b:=by
 cases h with
 |pair=>exact absurd rfl ht
 |num n h0 h1=>exact⟨rfl,by have:=Lib.itoa_length_le n h0 h1;simp only [Sc.atom];omega,fun _ _ _=>nofun⟩
 |bool b=>exact⟨rfl,by cases b <;> decide,fun _ _ _=>nofun⟩
 |str s hz=>
  have e1:s.data.toList.length=s.size:=Array.length_toList
  refine⟨rfl,?_,fun _ _ _=>nofun⟩
  simp only [Sc.atom,List.length_cons,List.length_append,List.length_nil];omega
 |sym s hz=>
  have e1:s.data.toList.length=s.size:=Array.length_toList
  refine⟨rfl,?_,fun _ _ _=>nofun⟩
  simp only [Sc.atom];omega
 |proc v b h=>cases h <;> exact⟨rfl,by simp [Sc.atom],fun _ _ _=>nofun⟩
 |_=>exact⟨rfl,by simp [Sc.atom],fun _ _ _=>nofun⟩
theorem VRep.tl_other {H:Gh} {v:Vl} {t:Nat} {y:Value} (h:VRep H v (.iface t y)) (ht:t≠246) (ht':t≠186):Sc.tl v=[32,46,32]++(Sc.wr v++[41]):=by
 cases h with
 |pair=>exact absurd rfl ht
 |nil=>exact absurd rfl ht'
 |proc v b h=>cases h <;> rfl
 |_=>rfl
theorem qk2 (l hi N:Nat) (J Jx:List UInt8→World→Prop) (H:Gh) (w:World) (hY:Yl l hi N J Jx) (hG:GT w) (h6:6≤hi) (hhi:hi≤w.heap.size) (v:Vl) (t:Nat) (y:Value) (hv:VRep H v (.iface t y)) (ht:t≠246):∀(n:Nat) (pre:List UInt8) (W:World),Below hi w W→J pre W→pre.length+(Sc.wr v).length≤N→
 CallsIn Fence.wide n prog 90 #[.iface t y,.func (.yield l) #[] #[]] W fun e W'=>Yd hi J Jx w pre (Sc.wr v) e W':=by
 intro n pre W hK hJ hN
 obtain⟨hwa,hal,hnp⟩:=hv.wr_atom ht
 rw [hwa]at hN⊢
 have hdd:∀k:Nat,(Fence.wide.depth.isSome=true→1≤k):=fun k h=>by cases h
 have HY:=hZ hY
 have HK:=hZ hK
 have HJ:=hZ hJ
 have HT:=hZ (qlf W hv hnp (hG.below hK h6))
 have HSz:Hid (hi≤W.heap.size):=Nat.le_trans hhi hK.size
 have hW:∀W1,Below W.heap.size W W1→CallsIn Fence.wide (n-1) prog 156 #[.string ⟨(Sc.atom v).toArray⟩,.func (.yield l) #[] #[]] W1 fun e W'=>Yd hi J Jx w pre (Sc.atom v) e W':=by
  intro W1 hb
  have h1:Below hi w W1:=HK.out.trans (hb.mono HSz.out)
  have:=qds l hi N J Jx HY.out w ⟨(Sc.atom v).toArray⟩ pre (n-1) W1 h1 (HY.out.grow pre W W1 HJ.out (qfb hb)) (by simpa [ByteArray.size]using hN) (by simpa [ByteArray.size]using hal)
  simpa using this
 have HW:=hZ hW
 have a246:∀w,(Instr.typeAssert (.iface t y) 116 246 true).run prog w=.ok (.tuple #[.pointer none,.bool false]) w:=fun w=>qcd _ _ ht w
 clear hY hK hJ hv hG hW hnp ht
 refine callsIn_of_wp func90 rfl trivial ?_ rfl
 simp only [ntmps90,List.size_toArray,List.length_cons,List.length_nil,Nat.reduceAdd,Nat.reduceSub,Array.replicate_succ,Array.replicate_zero,List.push_toArray,List.append_toArray,List.nil_append,List.cons_append]
 gi_wp2_with (first
  |(refine⟨trivial,hdd _,?_⟩;gi_at_call 157;refine(callsIn_wide.2 HT.out).mono ?_;rintro e W1 ⟨rfl,hb1⟩;have HB1:=hZ hb1;clear hb1)
  |(refine⟨trivial,hdd _,?_⟩;gi_at_call 156;refine(HW.out _ HB1.out).mono ?_;rintro e W2 (⟨rfl,hj,hk⟩|⟨rfl,hq⟩)))
 ·go_ret
  exact .inl ⟨rfl,hj,hk⟩
 ·go_ret
  exact .inr ⟨rfl,hq⟩
def PRel (H:Gh) (hi:Nat) (J:List UInt8→World→Prop) (w:World) (pre T:List UInt8) (B gf:Nat) (p:Value) (wr:World):Prop:=
 ∃(g:Nat) (x y:Value) (b:Vl) (done:List UInt8),gf=SizeOf.sizeOf b∧p=.pointer (some ⟨g,0,none⟩)∧H.I g=some (.cells #[x,y] 252 (0,0))∧VRep H b y∧J (pre++done) wr∧Below hi w wr∧done++Sc.tl b=T∧SizeOf.sizeOf b≤B
theorem qfz (l hi N:Nat) (J Jx:List UInt8→World→Prop) (H:Gh) (w:World) (hY:Yl l hi N J Jx) (_h6:6≤hi) (hhi:hi≤w.heap.size) (hIm:Im H hi w) (id:Nat) (a b:Vl)
  (IH:∀t':Vl,SizeOf.sizeOf t'≤SizeOf.sizeOf a+SizeOf.sizeOf b→WrSaid l hi N J Jx H w t')
  (n:Nat) (g:Nat) (x y:Value) (pre:List UInt8) (W:World) (hh:H.I g=some (.cells #[x,y] 252 (0,0))) (ha:VRep H a x) (hb:VRep H b y) (hK:Below hi w W) (hJ:J pre W)
  (hN:pre.length+(Sc.wr (.pair id a b)).length≤N):
  CallsIn Fence.wide n prog 155 #[.pointer (some ⟨g,0,none⟩),.func (.yield l) #[] #[]] W fun e W'=>Yd hi J Jx w pre (Sc.wr (.pair id a b)) e W':=by
 have hdd:∀k:Nat,(Fence.wide.depth.isSome=true→1≤k):=fun k h=>by cases h
 have hT:Sc.wr (.pair id a b)=40::(Sc.wr a++Sc.tl b):=rfl
 rw [hT]at hN⊢
 simp only [List.length_cons,List.length_append]at hN
 obtain⟨tx,px,rfl⟩:=ha.form
 have hy1:YieldAt Fence.wide (n-1) prog l #[.int .u8 40] W fun e W1=>
   (e=.returned (.bool true)∧W1.cell? ⟨g,0,none⟩=some (.iface tx px)∧CallsIn Fence.wide (n-1) prog 90 #[.iface tx px,.func (.yield l) #[] #[]] W1 fun e W2=>Yd hi J Jx w (pre++[40]) (Sc.wr a) e W2)∨(e=.returned (.bool false)∧Jx (pre++[40]) W1):=
  YieldAt.mono (hY.y (n-1) pre 40 W hJ (by omega)) fun e W1 h=>h.elim
   (fun⟨he,hj,hk⟩=>.inl ⟨he,by rw [hIm.cell (hK.trans hk) hh];rfl,IH a (by omega) (n-1) _ (pre++[40]) W1 ha (hK.trans hk) hj (by simp;omega)⟩) .inr
 have HY:=hZ hY
 have HI:=hZ IH
 have HH:=hZ hh
 have HB:=hZ hb
 have HIm:=hZ hIm
 clear hY IH hh ha hb hK hJ hIm
 obtain⟨fn,tmps,assign,body,hy,hR⟩:=hy1
 refine callsIn_of_wp func155 rfl trivial ?_ rfl
 simp only [ntmps155,List.size_toArray,List.length_cons,List.length_nil,Nat.reduceAdd,Nat.reduceSub,Array.replicate_succ,Array.replicate_zero,List.push_toArray,List.append_toArray,List.nil_append,List.cons_append]
 gi_wp2_with (first
  |((try refine⟨hdd _,?_⟩);refine hR.mono ?_;clear hR;rintro e W1 (⟨rfl,c1,hC1⟩|⟨rfl,hx1⟩))
  |(refine⟨trivial,hdd _,?_⟩;gi_at_call 90;refine hC1.mono ?_;clear hC1;rintro e W2 (⟨rfl,hj2,hk2⟩|⟨rfl,q,hq,hx2⟩)))
 rotate_left
 ·go_ret
  obtain⟨r,hr'⟩:=hq
  exact .inr ⟨rfl,40::q,⟨r++Sc.tl b,by rw [←hr'];simp⟩,by simpa using hx2⟩
 ·refine⟨trivial,?_⟩
  gi_wp2
  go_ret
  exact .inr ⟨rfl,[40],⟨_,rfl⟩,hx1⟩
 have HJ2:=hZ hj2
 have HK2:=hZ hk2
 clear hj2 hk2 c1 hy
 gi_loopg [0] (SizeOf.sizeOf b) (PRel H hi J w pre (40::(Sc.wr a++Sc.tl b)) (SizeOf.sizeOf b))
 case atStart=>exact⟨g,_,y,b,40::Sc.wr a,rfl,rfl,HH.out,HB.out,by simpa using HJ2.out,HK2.out,by simp,Nat.le_refl _⟩
 case round=>
  obtain⟨g1,x1,y1,b1,done,hgk,rfl,hh1,hb1,hj1,hk1,hdone,hsz1⟩:=hrel
  have hlen:done.length+(Sc.tl b1).length=1+((Sc.wr a).length+(Sc.tl b).length):=by have:=congrArg List.length hdone;simp at this;omega
  have cy:wr.cell? ⟨g1,1,none⟩=some y1:=by rw [HIm.out.cell hk1 hh1];rfl
  have HDn:=hZ hdone
  have HJ1:=hZ hj1
  have HK1:=hZ hk1
  have HGk:=hZ hgk
  clear hdone hj1 hk1 hgk
  obtain⟨t1,p1,rfl⟩:=hb1.form
  by_cases ht:t1=246
  ·subst ht
   cases hb1 with
   |pair id' g2 a' b' x2 y2 hj' hh2 ha2 hb2=>
    obtain⟨t2,p2,rfl⟩:=ha2.form
    have htl:Sc.tl (.pair id' a' b')=32::(Sc.wr a'++Sc.tl b'):=rfl
    have hsz:SizeOf.sizeOf (Vl.pair id' a' b')=1+id'+SizeOf.sizeOf a'+SizeOf.sizeOf b':=by simp
    rw [htl]at hlen
    rw [hsz]at hsz1
    simp only [List.length_cons,List.length_append]at hlen
    have hy1:YieldAt Fence.wide (n-1) prog l #[.int .u8 32] wr fun e W1=>
      (e=.returned (.bool true)∧W1.cell? ⟨g2,0,none⟩=some (.iface t2 p2)∧CallsIn Fence.wide (n-1) prog 90 #[.iface t2 p2,.func (.yield l) #[] #[]] W1 fun e W2=>Yd hi J Jx w (pre++(done++[32])) (Sc.wr a') e W2)∨(e=.returned (.bool false)∧Jx (pre++(done++[32])) W1):=
     YieldAt.mono (HY.out.y (n-1) (pre++done) 32 wr HJ1.out (by simp;omega)) fun e W1 h=>h.elim
      (fun⟨he,hj,hk⟩=>.inl ⟨he,by rw [HIm.out.cell (HK1.out.trans hk) hh2];rfl,HI.out a' (by omega) (n-1) _ (pre++(done++[32])) W1 ha2 (HK1.out.trans hk) (by rw [←List.append_assoc];exact hj) (by simp;omega)⟩)
      (fun⟨he,hx⟩=>.inr ⟨he,by rw [←List.append_assoc];exact hx⟩)
    obtain⟨fn,tmps,assign,body,hy,hR⟩:=hy1
    have HB2:=hZ hb2
    have HH2:=hZ hh2
    have a246:∀w,(Instr.typeAssert (.iface 246 (bp g2)) 116 246 true).run prog w=.ok (.tuple #[bp g2,.bool true]) w:=fun w=>qgj _ w
    clear hh1 ha2 hb2 hh2 hj'
    gi_wp2_with (first
     |((try refine⟨hdd _,?_⟩);refine hR.mono ?_;clear hR;rintro e W1 (⟨rfl,c1,hC1⟩|⟨rfl,hx1⟩))
     |(refine⟨trivial,hdd _,?_⟩;gi_at_call 90;refine hC1.mono ?_;clear hC1;rintro e W2 (⟨rfl,hj2,hk2⟩|⟨rfl,q,hq,hx2⟩)))
    ·gi_roundg (SizeOf.sizeOf b')
     case measure=>rw [HGk.out,hsz];omega
     case rel=>
      refine⟨g2,_,y2,b',done++(32::Sc.wr a'),rfl,rfl,HH2.out,HB2.out,by simpa using hj2,hk2,?_,by omega⟩
      rw [←HDn.out,htl];simp
    ·go_ret
     obtain⟨r,hr'⟩:=hq
     refine .inr ⟨rfl,done++(32::q),⟨r++Sc.tl b',?_⟩,by simpa using hx2⟩
     rw [←HDn.out,htl,←hr'];simp
    ·refine⟨trivial,?_⟩
     gi_wp2
     go_ret
     refine .inr ⟨rfl,done++[32],⟨Sc.wr a'++Sc.tl b',?_⟩,hx1⟩
     rw [←HDn.out,htl];simp
  ·have a246:∀w,(Instr.typeAssert (.iface t1 p1) 116 246 true).run prog w=.ok (.tuple #[.pointer none,.bool false]) w:=fun w=>qcd _ _ ht w
   by_cases ht':t1=186
   ·subst ht'
    cases hb1 with
    |nil=>
     have htl:Sc.tl .nil=[41]:=rfl
     rw [htl]at hlen
     simp only [List.length_cons,List.length_nil]at hlen
     have hy3:YieldAt Fence.wide (n-1) prog l #[.int .u8 41] (wr.alloc (.cells #[] 186)) fun e W3=>(e=.returned (.bool true)∧J (pre++done++[41]) W3∧Below hi w W3)∨(e=.returned (.bool false)∧Jx (pre++done++[41]) W3):=
      YieldAt.mono (HY.out.y (n-1) _ 41 _ (HY.out.grow _ _ _ HJ1.out (World.grownBy_alloc _ _ _)) (by simp;omega)) fun e W3 h=>h.elim (fun⟨he,h1,h2⟩=>.inl ⟨he,h1,(HK1.out.trans ((Below.refl _ _).alloc (Nat.le_trans hhi HK1.out.size) _)).trans h2⟩) .inr
     obtain⟨fn,tmps,assign,body,hy,hR⟩:=hy3
     have a186:∀w,(Instr.typeAssert (.iface 186 (.agg #[])) 116 186 true).run prog w=.ok (.tuple #[.agg #[],.bool true]) w:=fun w=>is186 _ w
     clear hh1 ht
     gi_wp2_with ((try refine⟨hdd _,?_⟩);refine hR.mono ?_;clear hR;rintro e W3 (⟨rfl,hj3,hk3⟩|⟨rfl,hx3⟩))
     ·go_ret
      rw [←HDn.out,htl]
      exact .inl ⟨rfl,by simpa using hj3,hk3⟩
     ·go_ret
      rw [←HDn.out,htl]
      exact .inr ⟨rfl,_,List.prefix_refl _,by simpa using hx3⟩
   ·have htl:=hb1.tl_other ht ht'
    rw [htl]at hlen
    simp only [List.length_cons,List.length_append,List.length_nil]at hlen
    have hw1:=qds l hi N J Jx HY.out w ⟨#[32,46,32]⟩ (pre++done) (n-1) wr HK1.out HJ1.out (by simp [ByteArray.size];omega) (by decide)
    have hw2:∀W1,J (pre++done++[32,46,32]) W1→Below hi w W1→CallsIn Fence.wide (n-1) prog 90 #[.iface t1 p1,.func (.yield l) #[] #[]] W1 fun e W2=>Yd hi J Jx w (pre++done++[32,46,32]) (Sc.wr b1) e W2:=
     fun W1 hj hk=>HI.out b1 (by omega) (n-1) _ _ W1 hb1 hk hj (by simp;omega)
    have hy3:∀W2,J (pre++done++[32,46,32]++Sc.wr b1) W2→Below hi w W2→YieldAt Fence.wide (n-1) prog l #[.int .u8 41] W2 fun e W3=>(e=.returned (.bool true)∧J (pre++done++[32,46,32]++Sc.wr b1++[41]) W3∧Below hi w W3)∨(e=.returned (.bool false)∧Jx (pre++done++[32,46,32]++Sc.wr b1++[41]) W3):=
     fun W2 hj hk=>YieldAt.mono (HY.out.y (n-1) _ 41 W2 hj (by simp;omega)) fun e W3 h=>h.elim (fun⟨he,h1,h2⟩=>.inl ⟨he,h1,hk.trans h2⟩) .inr
    have hfin:40::(Sc.wr a++Sc.tl b)=done++([32,46,32]++(Sc.wr b1++[41])):=by rw [←HDn.out,htl]
    have HFin:=hZ hfin
    obtain⟨u,hu⟩:∃u,u=Sc.wr b1:=⟨_,rfl⟩
    rw [←hu]at hw2 hy3 hlen HFin
    have HW2:=hZ hw2
    have HY3:=hZ hy3
    have a186:∀w,(Instr.typeAssert (.iface t1 p1) 116 186 true).run prog w=.ok (.tuple #[.agg #[],.bool false]) w:=fun w=>qc0 _ _ ht' w
    clear hh1 hb1 hfin hw2 hy3 hu htl ht ht'
    gi_wp2_with (first
     |(refine⟨trivial,hdd _,?_⟩;gi_at_call 156;refine hw1.mono ?_;clear hw1;rintro e W1 (⟨rfl,hj1,hk1⟩|⟨rfl,q,hq,hx1⟩))
     |(refine⟨trivial,hdd _,?_⟩;gi_at_call 90;refine(HW2.out _ hj1 hk1).mono ?_;rintro e W2 (⟨rfl,hj2,hk2⟩|⟨rfl,q,hq,hx2⟩);obtain⟨fn,tmps,assign,body,hy,hR⟩:=HY3.out _ hj2 hk2)
     |((try refine⟨hdd _,?_⟩);refine hR.mono ?_;clear hR;rintro e W3 (⟨rfl,hj3,hk3⟩|⟨rfl,hx3⟩)))
    ·go_ret
     rw [HFin.out]
     exact .inl ⟨rfl,by simpa using hj3,hk3⟩
    ·go_ret
     rw [HFin.out]
     exact .inr ⟨rfl,_,List.prefix_refl _,by simpa using hx3⟩
    ·refine⟨fun _ h=>(by cases h),?_⟩
     gi_wp2
     go_ret
     rw [HFin.out]
     obtain⟨r,hr'⟩:=hq
     exact .inr ⟨rfl,done++([32,46,32]++q),⟨r++[41],by rw [←hr'];simp⟩,by simpa using hx2⟩
    ·refine⟨trivial,?_⟩
     gi_wp2
     refine⟨fun _ h=>(by cases h),?_⟩
     gi_wp2
     go_ret
     rw [HFin.out]
     obtain⟨r,hr'⟩:=hq
     exact .inr ⟨rfl,done++q,⟨r++(u++[41]),by rw [show([32,46,32]:List UInt8)=q++r from hr'.symm];simp⟩,by simpa using hx1⟩
theorem qm8 (l hi N:Nat) (J Jx:List UInt8→World→Prop) (H:Gh) (w:World) (hY:Yl l hi N J Jx) (hG:GT w) (h6:6≤hi) (hhi:hi≤w.heap.size) (hIm:Im H hi w):
  ∀(k:Nat) (v:Vl),SizeOf.sizeOf v≤k→WrSaid l hi N J Jx H w v:=by
 intro k
 induction k with
 |zero=>
  intro t ht n x pre W hv hK hJ hN
  have:0<SizeOf.sizeOf t:=by cases t <;> simp <;> omega
  omega
 |succ k ih=>
  intro v hs n x pre W hv hK hJ hN
  obtain⟨t,y,rfl⟩:=hv.form
  by_cases ht:t=246
  ·subst ht
   cases hv with
   |pair id g a b x y hj hh ha hb=>
    have hs:SizeOf.sizeOf a+SizeOf.sizeOf b≤k:=by simp at hs;omega
    have hdd:∀k:Nat,(Fence.wide.depth.isSome=true→1≤k):=fun k h=>by cases h
    have hP:=qfz l hi N J Jx H w hY h6 hhi hIm id a b (fun t' h=>ih t' (by omega)) (n-1) g x y pre W hh ha hb hK hJ hN
    have a246:∀w,(Instr.typeAssert (.iface 246 (bp g)) 116 246 true).run prog w=.ok (.tuple #[bp g,.bool true]) w:=fun w=>qgj _ w
    clear ih hY
    refine callsIn_of_wp func90 rfl trivial ?_ rfl
    simp only [ntmps90,List.size_toArray,List.length_cons,List.length_nil,Nat.reduceAdd,Nat.reduceSub,Array.replicate_succ,Array.replicate_zero,List.push_toArray,List.append_toArray,List.nil_append,List.cons_append]
    gi_wp2_with (refine⟨trivial,hdd _,?_⟩;gi_at_call 155;refine hP.mono ?_;clear hP;rintro e W2 (⟨rfl,hj,hk⟩|⟨rfl,hq⟩))
    ·go_ret
     exact .inl ⟨rfl,hj,hk⟩
    ·go_ret
     exact .inr ⟨rfl,hq⟩
  ·exact qk2 l hi N J Jx H w hY hG h6 hhi v t y hv ht n pre W hK hJ hN
end
section
open Sc
attribute [local go_sem] Oper.semAt_some
theorem qfy (H:Gh) (hi Bt n:Nat) (v:Vl) (t:Nat) (y:Value) (w:World) (hc:w.heap[Bt]? =some (.cells #[.iface t y] 116 (0,0))) (hv:VRep H v (.iface t y)) (hG:GT w) (h6:6≤hi) (hhi:hi≤w.heap.size) (hIm:Im H hi w):
  SeqStopsK Fence.wide n prog 89 #[.pointer (some ⟨Bt,0,none⟩)] (fun x:UInt8=>#[Value.int .u8 (x.toNat:Int)]) (Below hi) (fun ys=>ys=Sc.wr v) (fun pre=>pre<+:Sc.wr v) (Sc.wr v).length w:=by
 intro l J Jx W hW hJ _ hY h0
 have hdd:∀k:Nat,(Fence.wide.depth.isSome=true→1≤k):=fun k h=>by cases h
 have hYl:Yl l hi (Sc.wr v).length J Jx:=⟨fun m pre x W hj hn=>YieldAt.anyDepth rfl m (hY pre x W hj hn),fun pre A B hj hg=>hJ pre A B none hj hg (fun r e=>by cases e)⟩
 have hK:Below hi w W:=hW.mono hhi
 have hp:=qm8 l hi (Sc.wr v).length J Jx H w hYl hG h6 hhi hIm (SizeOf.sizeOf v) v (Nat.le_refl _) (n-1) _ [] W hv hK h0 (by simp)
 have cB:W.cell? ⟨Bt,0,none⟩=some (.iface t y):=by
  have:=hW.block Bt (Array.getElem?_eq_some_iff.1 hc).1
  simp [World.cell?,this,hc]
 clear hY hYl hJ hK
 refine callsIn_of_wp func89 rfl trivial ?_ rfl
 simp only [ntmps89,List.size_toArray,List.length_cons,List.length_nil,Nat.reduceAdd,Nat.reduceSub,Array.replicate_succ,Array.replicate_zero,List.push_toArray,List.append_toArray,List.nil_append,List.cons_append]
 gi_wp2_with (refine⟨trivial,hdd _,?_⟩;gi_at_call 90;refine hp.mono ?_;clear hp;rintro e W1 (⟨rfl,hJ1,_⟩|⟨rfl,q,hq,hx⟩))
 ·go_end0
  exact⟨⟨_,rfl⟩,.inl ⟨_,rfl,by simpa using hJ1⟩⟩
 ·go_end0
  exact⟨⟨_,rfl⟩,.inr ⟨q,hq,by simpa using hx⟩⟩
theorem qic (t:Nat) (y:Value) (w:World):
  Calls prog 59 #[.iface t y] w fun e w'=>e=.returned (.func (.func 89) #[] #[.pointer (some ⟨w.heap.size,0,none⟩)])∧w'=w.alloc (.cells #[.iface t y] 116):=by
 go_enter func59,ntmps59
 go_wp2
 go_ret
 exact⟨rfl,rfl⟩
def St (w:World) (bs:List UInt8) (W:World):Prop:=∃sa sc,W.heap[w.heap.size+1]? =some (.cells #[.slice sa bs.length sc] 128 (0,0))∧W.ownsRow (w.heap.size+2) 5 1 (.slice sa bs.length sc) bs.length (Lib.byteCells bs)∧W.heap[w.heap.size]? =some (.cells #[.int .i64 1200] 3 (0,0))∧Below w.heap.size w W∧bs.length≤1200
theorem info5:(prog.info? 5).map (fun i=>(i.zero,i.size,i.bytes))=some (some (.int .u8 0),1,1):=by kernel_rfl
theorem St.keep {w:World} {bs:List UInt8} {W W':World} {row:Option Nat} (h:St w bs W) (hg:W.grownBy W' row) (hr:∀r,row=some r→w.heap.size≤r∧∃o:Obj,W.heap[r]? =some o∧o.isCells=false):St w bs W':=by
 obtain⟨sa,sc,h1,h2,h3,h4,h5⟩:=h
 have ne:∀(k:Nat) (c:Array Value) (t:Nat) (z:Nat×Nat),W.heap[k]? =some (Obj.cells c t z)→W'.heap[k]? =some (Obj.cells c t z):=fun k c t z hk=>by
  rw [hg.block k (Array.getElem?_eq_some_iff.1 hk).1 fun e=>by
   obtain⟨_,o,ho,hc⟩:=hr k e.symm
   rw [hk]at ho;cases ho;cases hc]
  exact hk
 refine⟨sa,sc,ne _ _ _ _ h1,?_,ne _ _ _ _ h3,⟨hg.os.trans h4.os,hg.tape.trans h4.tape,hg.output.trans h4.output,Nat.le_trans h4.size hg.size,fun k hk=>?_⟩,h5⟩
 ·refine⟨h2.1,?_⟩
  rcases h2.2 with h|⟨g,cap,cur,hv,hb,hgg,hrest⟩
  ·exact .inl h
  ·exact .inr ⟨g,cap,cur,hv,hb,ne _ _ _ _ hgg,hrest⟩
 ·rw [hg.block k (Nat.lt_of_lt_of_le hk h4.size) fun e=>by have:=(hr k e.symm).1;omega]
  exact h4.block k hk
abbrev markD (D:Nat):Deferred:={target:=.collected D,args:=#[]}
theorem qck {F:Fence} {n:Nat} {P:Program} {fn:Func} {tmps:Array Value} {R:Ending→World→Prop} {B:Nat}:∀(Ds:List Nat) (w:World),Ds.Nodup→(∀D,D∈Ds→B≤D∧w.heap[D]? =some (.deferred (some [])))→
  (∀w',Below B w w'→LeavesInM F n P fn tmps R [] .returning w')→B≤w.heap.size→LeavesInM F n P fn tmps R (Ds.map markD) .returning w
 | [],w,_,_,h,_=>h w (Below.refl _ _)
 |D::Ds,w,hnd,hD,h,hB=>by
  obtain⟨h1,h2⟩:=hD D (List.mem_cons_self ..)
  have hg:=grownBy_putObj' w D (.deferred none)
  have hbl:Below B w (w.putObj D (.deferred none)):=⟨hg.os,hg.tape,hg.output,hg.size,fun k hk=>hg.block k (by omega) (by intro e;cases e;omega)⟩
  refine⟨by simp,.inl ⟨D,_,rfl,run_takeDeferred h2,?_⟩⟩
  refine qck Ds _ (List.nodup_cons.1 hnd).2 (fun E hE=>?_) (fun w' hw'=>h w' (hbl.trans hw')) (Nat.le_trans hB hg.size)
  obtain⟨h3,h4⟩:=hD E (List.mem_cons_of_mem _ hE)
  exact⟨h3,by rw [hg.block E (Array.getElem?_eq_some_iff.1 h4).1 (by intro e;cases e;exact(List.nodup_cons.1 hnd).1 hE)];exact h4⟩
theorem qpy {w:World} {lo:Nat} {sa:Option Addr} {sc:Nat} {bs:List UInt8} (h:w.ownsRow lo 5 1 (.slice sa bs.length sc) bs.length (Lib.byteCells bs)):(convert 128 9 (.slice sa bs.length sc)).run prog w=.ok (.string ⟨bs.toArray⟩) w:=by
 rcases h.2 with⟨hh,h0⟩|⟨g,cap,cur,hh,hb,hg,hn,hm,hs,ht⟩
 ·have hz:bs=[]:=List.eq_nil_of_length_eq_zero h0
  subst hz
  cases hh
  rw [show([]:List UInt8).length=0 from rfl,run_convert_bytes_nil w 128 5 underlying128 underlying5 0 0 9 underlying9]
  rfl
 ·cases hh
  refine run_convert_bytes_back w 128 9 5 ⟨g,0,none⟩ sc bs underlying128 underlying5 underlying9 fun j hj=>?_
  have hadd:(⟨g,0,none⟩:Addr).add j=⟨g,j,none⟩:=by unfold Addr.add;split <;> simp_all
  have hc:cur.toList[j]? =some (.int .u8 (bs[j].toNat:Int)):=by
   have:(cur.toList.take (bs.length*1))[j]? =some (.int .u8 (bs[j].toNat:Int)):=by rw [ht];simp [Lib.byteCells,hj]
   rw [List.getElem?_take]at this
   split at this
   ·exact this
   ·cases this
  rw [hadd]
  simp only [World.cell?,hg]
  simpa using hc
theorem qqz (n:Nat) (hn:6≤n) (H:Gh) (v:Vl) (t:Nat) (y:Value) (w:World) (hv:VRep H v (.iface t y)) (hG:GT w) (h6:6≤w.heap.size) (hIm:Im H w.heap.size w):
  CallsIn Fence.wide n prog 145 #[.iface t y,.int .i64 1200] w fun e w'=>e=.returned (.string ⟨((Sc.wr v).take 1200).toArray⟩)∧Below w.heap.size w w':=by
 have hdd:∀k:Nat,(Fence.wide.depth.isSome=true→1≤k):=fun k h=>by cases h
 have HV:=hZ hv
 have HG:=hZ hG
 have HIm:=hZ hIm
 clear hv hG hIm
 refine callsIn_of_wp_marks func145 rfl trivial ?_ rfl
 simp only [ntmps145,List.size_toArray,List.length_cons,List.length_nil,Nat.reduceAdd,Nat.reduceSub,Array.replicate_succ,Array.replicate_zero,List.push_toArray,List.append_toArray,List.nil_append,List.cons_append]
 gi_wp2_with (refine⟨trivial,hdd _,?_⟩;gi_at_call 59;refine(callsIn_wide.2 (qic t y _)).mono ?_;rintro e w1 ⟨rfl,rfl⟩)
 have hsz:(((w.alloc (.cells #[.int .i64 1200] 3)).alloc (.cells #[.slice none 0 0] 128)).alloc (.cells #[.iface t y] 116)).heap.size=w.heap.size+3:=by simp
 have hbw:Below w.heap.size w (((w.alloc (.cells #[.int .i64 1200] 3)).alloc (.cells #[.slice none 0 0] 128)).alloc (.cells #[.iface t y] 116)):=(((Below.refl _ _).alloc (Nat.le_refl _) _).alloc (by simp) _).alloc (by simp;omega) _
 have hIm3:Im H w.heap.size (((w.alloc (.cells #[.int .i64 1200] 3)).alloc (.cells #[.slice none 0 0] 128)).alloc (.cells #[.iface t y] 116)):=fun b c t h=>by
  obtain⟨h1,h2⟩:=HIm.out b c t h
  exact⟨by rw [hbw.block b h2];exact h1,h2⟩
 have hseq:=qfy H w.heap.size (w.heap.size+2) (n-1) v t y (((w.alloc (.cells #[.int .i64 1200] 3)).alloc (.cells #[.slice none 0 0] 128)).alloc (.cells #[.iface t y] 116)) (by have:=heap_alloc_new ((w.alloc (.cells #[.int .i64 1200] 3)).alloc (.cells #[.slice none 0 0] 128)) (.cells #[.iface t y] 116);simpa using this) HV.out (HG.out.below hbw (by omega)) h6 (by simp;omega) hIm3
 have hst:St w [] (((w.alloc (.cells #[.int .i64 1200] 3)).alloc (.cells #[.slice none 0 0] 128)).alloc (.cells #[.iface t y] 116)):=by
  refine⟨none,0,?_,⟨rfl,.inl ⟨rfl,rfl⟩⟩,?_,hbw,by simp⟩
  ·rw [Below.heap_alloc _ _ _ (by simp)];have:=heap_alloc_new (w.alloc (.cells #[.int .i64 1200] 3)) (.cells #[.slice none 0 0] 128);simpa using this
  ·rw [Below.heap_alloc _ _ _ (by simp;omega),Below.heap_alloc _ _ _ (by simp)];exact heap_alloc_new _ _
 clear hIm3 HIm HG HV
 generalize hW3:((w.alloc (.cells #[.int .i64 1200] 3)).alloc (.cells #[.slice none 0 0] 128)).alloc (.cells #[.iface t y] 116)=W3 at hseq hst hsz hbw⊢
 clear hW3
 have HSt:=hZ hst
 have HSz:=hZ hsz
 have HBw:=hZ hbw
 clear hst hsz hbw
 refine wpIn_rangeFunc_ownF rfl (by omega) (gf:=89) (lb:=#[.pointer (some ⟨w.heap.size+2,0,none⟩)]) rfl trivial (enters_of func89 (by kernel_rfl) rfl) hseq belowK_t (belowK_b (by have:=HSz.out;omega)) (Below.refl _ _) (fun _=>rfl)
  (fun pre W=>St w pre W) (fun c pre W=>c=.exit 0∧pre.length=1201∧St w (pre.take 1200) W) ?hI ?hIx HSt.out
  (fun x=>{tmps:=#[.iface t y,.int .i64 1200,undef,.pointer (some ⟨w.heap.size,0,none⟩),.string ⟨#[]⟩,.pointer (some ⟨w.heap.size+1,0,none⟩),.int .u8 (x.toNat:Int),.iface t y,.func (.func 89) #[] #[.pointer (some ⟨w.heap.size+1+1,0,none⟩)],.int .u8 (x.toNat:Int),undef,undef,undef,undef,undef,undef,undef,undef,undef,undef],defers:=[]}) ?assign ?body ?done ?stop
 case hI=>exact fun pre W W' row hs hg hr=>hs.keep hg fun r e=>by obtain⟨h1,h2⟩:=hr r e;exact⟨by have:=HSz.out;omega,h2⟩
 case hIx=>exact fun c pre W W' row hs hg hr=>⟨hs.1,hs.2.1,hs.2.2.keep hg fun r e=>by obtain⟨h1,h2⟩:=hr r e;exact⟨by have:=HSz.out;omega,h2⟩⟩
 case assign=>
  intro l x W K hK
  gi_wp2
  exact hK
 case body=>
  intro l pre x W hs hpl
  obtain⟨sa,sc,s1,s2,s3,s4,s5⟩:=hs
  have c1:W.cell? ⟨w.heap.size+1,0,none⟩=some (.slice sa pre.length sc):=by simp [World.cell?,s1]
  have c0:W.cell? ⟨w.heap.size,0,none⟩=some (.int .i64 1200):=by simp [World.cell?,s3]
  by_cases hfull:pre.length=1200
  ·have HS:Hid (St w pre W):=⟨sa,sc,s1,s2,s3,s4,s5⟩
   have hd:(pre.length:Int)=1200:=by omega
   have HF:=hZ hfull
   clear s1 s2 s3 s4 s5 hfull hpl hseq
   gi_wp2
   refine⟨KeepsOthers.refl _,rfl,by simp [HF.out],?_⟩
   rw [List.take_append_of_le_length (by rw [HF.out];exact Nat.le_refl _),List.take_of_length_le (by rw [HF.out];exact Nat.le_refl _)]
   exact HS.out
  ·obtain⟨i0,hi,hz0',hz1',hz2'⟩:=info_parts info5
   have hd:¬(pre.length:Int)=1200:=by omega
   have hne:some (w.heap.size+1)≠(Value.slice sa pre.length sc).ownBlock:=fun e=>by have:=(s2.lt _ e.symm).1;omega
   have hnm:some w.heap.size≠(Value.slice sa pre.length sc).ownBlock:=fun e=>by have:=(s2.lt _ e.symm).1;omega
   have hlt1:=(Array.getElem?_eq_some_iff.1 s1).1
   have H1:=hZ s1
   have H2:=hZ s2
   have H3:=hZ s3
   have H4:=hZ s4
   have H5:Hid (pre.length+1≤1200):=hZ (by omega)
   clear s1 s2 s3 s4 s5 hfull hpl hseq
   gi_wp2_with (gi_at_builtin;refine wpListIn_append_own _ rfl _ _ 128 rfl (w.heap.size+2) 5 i0 (.int .u8 0) 1 1 underlying128 hi hz0' hz1' hz2' rfl (by decide) _ _ _ rfl (H2.out.alloc _) ⟨W.heap.size,0,none⟩ 1 1 [.int .u8 (x.toNat:Int)] rfl rfl ?c1 ?c2 ?c3 ?c4 ?c5 ?_)
   case c1=>exact World.news_of_block (cs:=#[.int .u8 (x.toNat:Int)]) (heap_alloc_new _ _)
   case c2=>intro u hu;simp at hu;rcases hu with rfl;rfl
   case c3=>have:=H5.out;unfold maxLen;omega
   case c4=>have:=H5.out;omega
   case c5=>have:=H4.out.size;simp;omega
   intro v' W2 hown hgrow _
   refine Hid.out ?_
   obtain⟨g,cap,rfl,hg1,hg2⟩:=hown.form (by omega)
   have hga:W.grownBy W2 (Value.slice sa pre.length sc).ownBlock:=qbf hgrow
   have k1:W2.heap[w.heap.size+1]? =some (.cells #[.slice sa pre.length sc] 128 (0,0)):=by rw [hga.block _ hlt1 hne];exact H1.out
   have k0:W2.heap[w.heap.size]? =some (.cells #[.int .i64 1200] 3 (0,0)):=by rw [hga.block _ (by omega) hnm];exact H3.out
   have d1:W2.cell? ⟨w.heap.size+1,0,none⟩=some (.slice sa pre.length sc):=by simp [World.cell?,k1]
   have hfz:W2.frozen? ⟨w.heap.size+1,0,none⟩=false:=by simp [World.frozen?,k1]
   have K1:=hZ k1
   have K0:=hZ k0
   have HO:=hZ hown
   have HGa:=hZ hga
   clear hown hgrow hga k1 k0 hg1 hg2
   refine hZ ?_
   gi_wp2
   have hrow:∀r,(Value.slice sa pre.length sc).ownBlock=some r→w.heap.size+2≤r:=fun r e=>((H2.out).lt r e).1
   have hbl:Below w.heap.size W (W2.setCell ⟨w.heap.size+1,0,none⟩ (.slice (some ⟨g,0,none⟩) (pre.length+1) cap)):=
    ⟨HGa.out.os,HGa.out.tape,HGa.out.output,by rw [qaf];exact HGa.out.size,fun k hk=>by
     rw [qaa (a:=⟨w.heap.size+1,0,none⟩) k (by show k≠w.heap.size+1;omega)]
     exact HGa.out.block k (by omega) fun e=>by have:=hrow k e.symm;omega⟩
   refine⟨⟨hbl.size,fun k o hk ho=>?_⟩,hbl,some ⟨g,0,none⟩,cap,?_,?_,?_,H4.out.trans hbl,by have:=H5.out;simpa using this⟩
   ·have hk1:k≠w.heap.size+1:=fun e=>by rw [e,H1.out]at hk;cases hk;cases ho
    rw [qaa (a:=⟨w.heap.size+1,0,none⟩) k hk1,HGa.out.block k (Array.getElem?_eq_some_iff.1 hk).1 ?_]
    ·exact hk
    ·intro e
     rcases H2.out.2 with⟨hh,_⟩|⟨g',cap',cur',hh,_,hg',_⟩
     ·rw [hh]at e;cases e
     ·rw [hh]at e;cases e;rw [hg']at hk;cases hk;cases ho
   ·have:=qbc (v:=.slice (some ⟨g,0,none⟩) (pre.length+1) cap) K1.out
    simpa using this
   ·have:=qcj (a:=⟨w.heap.size+1,0,none⟩) (x:=.slice (some ⟨g,0,none⟩) (pre.length+1) cap) HO.out (show w.heap.size+1<w.heap.size+2 by omega)
    simpa [Lib.byteCells]using this
   ·rw [qaa (a:=⟨w.heap.size+1,0,none⟩) _ (show w.heap.size≠w.heap.size+1 by omega)];exact K0.out
 case done=>
  intro D xs W hD hS hI hDk
  have hEq:(Sc.wr v).take 1200=xs:=by
   obtain⟨_,_,_,_,_,_,h⟩:=hI
   rw [←hS];exact List.take_of_length_le h
  clear hS
  have HDk:=hZ hDk
  obtain⟨sa,sc,s1,s2,s3,s4,s5⟩:=hI
  have c1:W.cell? ⟨w.heap.size+1,0,none⟩=some (.slice sa xs.length sc):=by simp [World.cell?,s1]
  have hcv:=qpy s2
  have H4:=hZ s4
  have HE:=hZ hEq
  have HDz:=hZ hD
  clear s1 s2 s3 s4 s5 hseq hDk hEq hD
  gi_wp2
  refine qck (B:=w.heap.size) [D] W (by simp) (fun E hE=>?_) (fun w' hw'=>?_) H4.out.size
  ·simp at hE;subst hE
   exact⟨by have:=HSz.out;have:=HDz.out;omega,HDk.out⟩
  ·exact⟨.string ⟨xs.toArray⟩,by simp [results,results145,go_sem],by rw [HE.out],H4.out.trans hw'⟩
 case stop=>
  rintro D c pre W hD hS ⟨rfl,hl,hI⟩ hDk
  have hEq:(Sc.wr v).take 1200=pre.take 1200:=by
   obtain⟨r,hr⟩:=hS
   rw [←hr,List.take_append_of_le_length (by omega)]
  generalize pre.take 1200=bs at hEq hI
  clear hS hl
  have HDk:=hZ hDk
  obtain⟨sa,sc,s1,s2,s3,s4,s5⟩:=hI
  have c1:W.cell? ⟨w.heap.size+1,0,none⟩=some (.slice sa bs.length sc):=by simp [World.cell?,s1]
  have hcv:=qpy s2
  have H4:=hZ s4
  have HE:=hZ hEq
  have HDz:=hZ hD
  clear s1 s2 s3 s4 s5 hseq hDk hEq hD
  gi_wp2
  refine qck (B:=w.heap.size) [D] W (by simp) (fun E hE=>?_) (fun w' hw'=>?_) H4.out.size
  ·simp at hE;subst hE
   exact⟨by have:=HSz.out;have:=HDz.out;omega,HDk.out⟩
  ·exact⟨.string ⟨bs.toArray⟩,by simp [results,results145,go_sem],by rw [HE.out],H4.out.trans hw'⟩
theorem qg6 (H:Gh) (v:Vl) (x:Value) (w:World) (hv:VRep H v x) (hG:GT w) (h6:6≤w.heap.size) (hIm:Im H w.heap.size w):
  Calls prog 145 #[x,.int .i64 1200] w fun e w'=>e=.returned (.string ⟨((Sc.wr v).take 1200).toArray⟩)∧Below w.heap.size w w':=by
 obtain⟨t,y,rfl⟩:=hv.form
 exact callsIn_wide.1 (qqz 6 (Nat.le_refl _) H v t y w hv hG h6 hIm)
end
section
open Sc
theorem error_w (t:Nat) (y:Value) (s:ByteArray) (w:World) (hS:Calls prog 145 #[.iface t y,.int .i64 1200] w fun e w'=>e=.returned (.string s)∧Below w.heap.size w w'):
  Calls prog 224 #[.iface t y] w fun e w'=>e=.panicked (stopP (.iface 166 (.agg #[.int .i64 14,.string s])))∧Below w.heap.size w w':=by
 have HS:=hZ hS
 clear hS
 go_enter func224,ntmps224
 go_wp2_with (go_at_call 145;refine HS.out.mono ?_;rintro e w1 ⟨rfl,hb⟩;have HB:=hZ hb;clear hb)
 exact⟨rfl,rfl,HB.out⟩
theorem qmo {S:Sub} (m:Mc) (H:Gh) (w:World) (v:Vl) (x:Value) (tw:TabW H) (i:Inv H S m w) (hv:VRep H v x):Calls prog 224 (#[x]++#[]) w (WorkOk H S (value S m .error [v])):=by
 obtain⟨t,y,rfl⟩:=hv.form
 refine Calls.mono (error_w t y _ w (qg6 H v _ w hv (tw.now i) (tw.six i) fun b c t h=>⟨i.imm h,i.lt h⟩)) ?_
 rintro e w' ⟨rfl,hb⟩
 exact .inr ⟨14,{m with raised:=(Sc.wr v).take 1200},rfl,rfl,⟨(i.below hb).st,(i.below hb).ce,(i.below hb).fo,fun h=>((i.below hb).ff h).1,(i.below hb).cnt.mb⟩⟩
end
end Go.Proofs.YtldaocpojcfljaaGreatDoor
