import Derived.Test.YtldaocpojcfljaaGreatDoorC24
import Derived.RangeFuncNested
import Derived.RangeFuncBound
import Derived.RangeFuncCalls
import Derived.RangeFuncLeaves
import Derived.Shelf.RegionOpen
import Derived.TacticsInMore
import Derived.LoopNIn
import Derived.LoopIn
set_option maxRecDepth 100000
set_option maxHeartbeats 4000000
namespace Go.Proofs.YtldaocpojcfljaaGreatDoor
open Tryz hiding parts
open Go.RowKit Go.Shelf
section
open Sc
theorem str_add (a b:ByteArray) (h:a.size+b.size≤9223372036854775807) (w:World):(Op.stringOp .add a b).run prog w=.ok (.string (a++b)) w:=run_string_add_sum w _ _ (by simpa using h)
theorem qnl (r mb:Nat) (a b:ByteArray) (w:World) (Q:Ending→World→Prop) (hQ:∀e w,Q e w→(∃t y,e=.returned (.iface t y))∨∃ps,e=.panicked ps)
  (hl:(a.size:Int)+(b.size:Int)≤1200) (h1:w.cell? ⟨r,0,none⟩=some (.pointer (some ⟨mb,0,none⟩))) (hT:∀w',Lk w w'→Calls prog 213 #[.pointer (some ⟨mb,0,none⟩),.string (a++b)] w' Q):
  Calls prog 211 #[.string a,.string b,.pointer (some ⟨r,0,none⟩)] w Q:=by
 have HT:=hZ hT
 have HQ:=hZ hQ
 have h0:0≤(a.size:Int):=Int.natCast_nonneg _
 have h0':0≤(b.size:Int):=Int.natCast_nonneg _
 clear hT hQ
 go_enter func211,ntmps211
 go_wp2_with (go_at_call 212;refine(qcm _).mono ?_;rintro e w2 ⟨rfl,hww⟩;obtain rfl:=hww.symm;refine Hid.out ?_)
 refine hZ ?_
 have hs:a.size+b.size≤9223372036854775807:=by omega
 clear hl h0 h0'
 generalize hab:a++b=c at HT
 have ha:∀w,(Op.stringOp .add a b).run prog w=.ok (.string c) w:=fun w=>by rw [←hab];exact str_add a b hs w
 clear hs hab
 go_wp2_with (go_at_call 213;refine(HT.out _ (by exact⟨rfl,rfl,rfl,rfl⟩)).mono ?_;intro e w2 hq;rcases HQ.out _ _ hq with⟨t,y,rfl⟩|⟨ps,rfl⟩)
 all_goals first|exact hq|exact⟨rfl,hq⟩|(go_wp2;exact hq)
theorem VRep.as274 {G:Gh} {v:Vl} {t:Nat} {y:Value} (h:VRep G v (.iface t y)):(t=182∧∃b:ByteArray,y=.string b∧v=.str b.data.toList∧b.size≤1000000000)∨(t≠182∧Kd.ok .str v=false):=by
 cases h with
 |str s hz=>exact .inl ⟨rfl,s,rfl,rfl,hz⟩
 |proc v b h=>right;exact⟨by decide,by cases h <;> rfl⟩
 |_=>right;exact⟨by decide,rfl⟩
theorem qh4 {S:Sub} {n:Nat} (p:Pm) (f:Nat) (cw:Array Value) (ef:Eg f) (hk0:p.kinds=[.str,.str]) (hg0:p.grant=0) (hil:p.isList=false) (hc:Plain S p)
  (G:Gh) (m:Mc) (w:World) (al:List Vl) (k:List Fr) (q ku tq:Nat) (cu:Array Value) (sa:Option Addr) (sn sc:Nat)
  (hwork:∀(w':World) (a b:ByteArray),a.size≤1000000000→b.size≤1000000000→Inv G S m w'→Calls prog f (#[.string a,.string b]++cw) w' (WorkOk G S (value S m p [.str a.data.toList,.str b.data.toList])))
  (i:Inv G S m w) (hq:G.I q=some (.cells #[.func (.func f) #[] cw] tq (0,0))) (hk:FRep G k (.func (.func ku) #[] cu)) (hr:LRow G w.heap (.slice sa sn sc) al) (he:Ct.ended (go S (n+1) (.ap (.prim p) al k) m).1=true):
  Calls prog 274 (#[.slice sa sn sc,.func (.func ku) #[] cu]++#[bp q]) w (PostS G S (n+1) (.ap (.prim p) al k) m):=by
 obtain⟨hsn,hs6⟩:=hr.len
 by_cases hlen:sn=2
 ·subst hlen
  obtain⟨v,u,rfl⟩:∃v u,al=[v,u]:=by
   match al,hsn with
   | [a,b],_=>exact⟨a,b,rfl⟩
  obtain⟨g,o,arr,x,y,rfl,hc1,hc2,hg,hgm,hgi,hx1,hv,hy1,hu⟩:=hr.two
  obtain⟨t,x',rfl⟩:=hv.form
  obtain⟨s,y',rfl⟩:=hu.form
  have c0:w.cell? ⟨g,o,none⟩=some (.iface t x'):=by simp only [World.cell?,hg];simpa using hx1
  have c1:w.cell? ⟨g,o+1,none⟩=some (.iface s y'):=by simp only [World.cell?,hg];simpa using hy1
  have stop6:(Kd.ok .str v&&Kd.ok .str u)=false→(t≠182∨((∃a,t=182∧x'=.string a)∧s≠182))→Calls prog 274 (#[.slice (some ⟨g,o,none⟩) 2 sc,.func (.func ku) #[] cu]++#[bp q]) w (PostS G S (n+1) (.ap (.prim p) [v,u] k) m):=fun hko ht=>by
   have hnx:Sc.next S (.ap (.prim p) [v,u] k) m=(.stop 6,m):=by
    show carry S (.prim p) [v,u] k m=_
    rw [hc]
    cases h1:Kd.ok .str v <;> cases h2:Kd.ok .str u <;> simp_all
   refine Calls.mono (qla g o sc q t s x' y' ku cu w c0 c1 ht) ?_
   rintro e w' ⟨rfl,o',rfl⟩
   exact Post.stepS hnx rfl (Gh.up.refl G) (Post.now (.stop 6 _ _ (i.cntB (Nat.le_refl _) ((Below.refl _ _).alloc (Nat.le_refl _) _))))
  rcases hv.as274 with⟨rfl,a,rfl,rfl,hza⟩|⟨ht,hko⟩
  ·rcases hu.as274 with⟨rfl,b,rfl,rfl,hzb⟩|⟨ht,hko⟩
   ·have hcar:Sc.next S (.ap (.prim p) [.str a.data.toList,.str b.data.toList] k) m=(match value S m p [.str a.data.toList,.str b.data.toList]with
      |(.error e,m)=>(.stop e,m)
      |(.ok v,m)=>(.ret v k,m)):=by
     show carry S (.prim p) _ k m=_
     rw [hc];simp [hk0,hg0,hil,Kd.ok] <;> rfl
    obtain⟨kk,ck,hku,egu⟩:=hk.isF
    cases hku
    refine qne g o sc q f ku a b cw cu w _ ef egu PostS.ends c0 c1 (by rw [i.cell hq];rfl) ?_
    intro w' hw
    refine Calls.mono (hwork w' a b hza hzb (Inv.lk hw i)) ?_
    rintro e w1 (⟨H,v',m',z,e1,rfl,hu,hi,hx'⟩|⟨vd,m',e1,rfl,hcn⟩)
    ·rw [e1]at hcar
     rw [qan hcar rfl]at he
     obtain⟨t',z',rfl⟩:=hx'.form
     refine .inl ⟨t',z',rfl,fun w2 hw2=>?_⟩
     exact Calls.mono ((qav S n).2 H m' w2 v' k _ ku cu (Inv.lk hw2 hi) hx' (hk.mono hu.le) he) fun e w p=>Post.stepS hcar rfl hu p
    ·rw [e1]at hcar
     exact .inr ⟨⟨_,rfl⟩,Post.stepS hcar rfl (Gh.up.refl _) (Post.now (.stop vd m' w1 hcn))⟩
   ·exact stop6 (by rw [hko];simp) (.inr ⟨⟨a,rfl,rfl⟩,ht⟩)
  ·exact stop6 (by rw [hko];rfl) (.inl ht)
 ·have hnx:Sc.next S (.ap (.prim p) al k) m=(.stop 7,m):=by
   show carry S (.prim p) al k m=_
   rw [hc]
   have:al.length≠2:=by omega
   simp [hk0,hil,this]
  refine Calls.mono (qlb sa sn sc q ku cu w hs6 hlen) ?_
  rintro e w' ⟨rfl,o',rfl⟩
  exact Post.stepS hnx rfl (Gh.up.refl G) (Post.now (.stop 7 _ _ (i.cntB (Nat.le_refl _) ((Below.refl _ _).alloc (Nat.le_refl _) _))))
theorem qij {S:Sub} (m:Mc) (H:Gh) (w:World) (a b:ByteArray) (r:Nat) (hr:H.mbox r) (hza:a.size≤1000000000) (hzb:b.size≤1000000000) (i:Inv H S m w):Calls prog 211 (#[.string a,.string b]++#[bp r]) w (WorkOk H S (value S m .strAppend [.str a.data.toList,.str b.data.toList])):=by
 have ea:a.data.toList.length=a.size:=Array.length_toList
 have eb:b.data.toList.length=b.size:=Array.length_toList
 by_cases hl:a.size+b.size≤1200
 ·have hval:value S m .strAppend [.str a.data.toList,.str b.data.toList]=new S m fun m=>(.str (a++b).data.toList,m):=by
   simp only [value,ea,eb,if_pos hl]
   simp
  rw [hval]
  exact qnl r H.mb a b w _ (fun e w h=>h.ends) (by omega) (by rw [i.cell hr];rfl) fun w' hw=>qf1 m H w' (a++b) (by simp;omega) (Inv.lk hw i)
 ·have hval:value S m .strAppend [.str a.data.toList,.str b.data.toList]=(.error 8,m):=by
   simp only [value,ea,eb,if_neg hl]
  rw [hval]
  refine Calls.mono (qik r a b w (by omega) (by omega) (by omega)) ?_
  rintro e w' ⟨rfl,o',rfl⟩
  exact .inr ⟨8,m,rfl,rfl,i.cntB (Nat.le_refl _) ((Below.refl _ _).alloc (Nat.le_refl _) _)⟩
end
section
open Sc
theorem qii {S:Sub} (m:Mc) (H:Gh) (w:World) (v:Vl) (s:ByteArray) (i:Inv H S m w) (hv:VRep H v (.iface 182 (.string s))):Calls prog 215 (#[.string s]++#[]) w (WorkOk H S (value S m .strLength [v])):=by
 cases hv with
 |str s hz=>
  refine Calls.mono (qqw s w) ?_
  rintro e w' ⟨rfl,rfl⟩
  have e1:s.data.toList.length=s.size:=Array.length_toList
  exact .inl ⟨H,_,m,_,rfl,rfl,Gh.up.refl H,i,by show VRep H (.num (s.data.toList.length:Int)) _;rw [e1];exact .num _ (by omega) (by omega)⟩
theorem qdc (n:Int) (h0:-9223372036854775808≤n) (h1:n≤9223372036854775807) (w:World) (h:GT w):
  Calls prog 218 #[.int .i64 n,.int .i64 10] w fun e w'=>e=.returned (.string ⟨(Lib.itoa n).toArray⟩)∧Below w.heap.size w w':=by
 refine(Tryz.strconv_FormatInt_10 n h0 h1 w h).mono ?_
 rintro e w' ⟨rfl,k,os,rfl⟩
 exact⟨rfl,Lib.below_grow _ _ (Nat.le_refl _) _ _⟩
theorem qrs (r mb:Nat) (n:Int) (t:ByteArray) (w:World) (Q:Ending→World→Prop) (hQ:∀e w,Q e w→(∃t y,e=.returned (.iface t y))∨∃ps,e=.panicked ps)
  (hS:∀t y w',Q (.returned (.iface t y)) w'→w'.cell? ⟨r,0,none⟩=some (.pointer (some ⟨mb,0,none⟩)))
  (h1:w.cell? ⟨r,0,none⟩=some (.pointer (some ⟨mb,0,none⟩))) (hF:∀w',Lk w w'→Calls prog 218 #[.int .i64 n,.int .i64 10] w' fun e w2=>e=.returned (.string t)∧w2.cell? ⟨r,0,none⟩=some (.pointer (some ⟨mb,0,none⟩))∧∀w3,Lk w2 w3→Calls prog 213 #[.pointer (some ⟨mb,0,none⟩),.string t] w3 Q):
  Calls prog 217 #[.int .i64 n,.pointer (some ⟨r,0,none⟩)] w Q:=by
 have HF:=hZ hF
 have HQ:=hZ hQ
 have HS:=hZ hS
 clear hF hQ hS
 go_enter func217,ntmps217
 go_wp2_with (fail)
 go_region_held2 (fun w'=>w'.cell? ⟨r,0,none⟩=some (.pointer (some ⟨mb,0,none⟩))) (first|(exact HS.out _ _ _ hq)|(exact HC1.out.1)|go_keep)
  (first|(go_at_call 218;refine(HF.out _ (by exact⟨rfl,rfl,rfl,rfl⟩)).mono ?_;rintro e w1 ⟨rfl,hc⟩;have HC1:=hZ hc;clear hc)|(go_at_call 213;refine(HC1.out.2 _ (by exact⟨rfl,rfl,rfl,rfl⟩)).mono ?_;intro e w3 hq;rcases HQ.out _ _ hq with⟨t,y,rfl⟩|⟨ps,rfl⟩;rotate_left;(exact⟨rfl,hq⟩)))
 all_goals(go_wp2;exact hq)
theorem qi1 {S:Sub} (m:Mc) (H:Gh) (w:World) (v:Vl) (n:Int) (r:Nat) (hr:H.mbox r) (tw:TabW H) (i:Inv H S m w) (hv:VRep H v (.iface 180 (.int .i64 n))):Calls prog 217 (#[.int .i64 n]++#[bp r]) w (WorkOk H S (value S m .numStr [v])):=by
 cases hv with
 |num n h0 h1=>
  refine qrs r H.mb n ⟨(Lib.itoa n).toArray⟩ w _ (fun e w h=>h.ends) ?_ (by rw [i.cell hr];rfl) fun w' hw=>?_
  ·rintro t y w' (⟨L,v',m',x',_,_,hu,hi,_⟩|⟨vd,m',_,h,_⟩)
   ·rw [hi.cell (hu.le.mbox hr),hu.le.mb];rfl
   ·cases h
  ·have i':=Inv.lk hw i
   refine Calls.mono (qdc n h0 h1 w' (tw.now i')) ?_
   rintro e w2 ⟨rfl,hb⟩
   have i2:=i'.below hb
   refine⟨rfl,by rw [i2.cell hr];rfl,fun w3 hw3=>?_⟩
   have:=qf1 m H w3 ⟨(Lib.itoa n).toArray⟩ (by have h:=Lib.itoa_length_le n h0 h1;show(Lib.itoa n).toArray.size≤_;rw [List.size_toArray];omega) (Inv.lk hw3 i2)
   simpa [value]using this
end
section
open Sc
theorem qlh (b:ByteArray):(⟨#[34]⟩++b++⟨#[34]⟩:ByteArray)=⟨(Sc.atom (.str b.data.toList)).toArray⟩:=by
 apply ByteArray.ext
 simp [Sc.atom,ByteArray.data_append]
theorem qlf {H:Gh} {v:Vl} {x:Value} (w:World) (hv:VRep H v x) (hna:∀id a b,v≠.pair id a b) (hG:GT w):
  Calls prog 157 #[x] w fun e w'=>e=.returned (.string ⟨(Sc.atom v).toArray⟩)∧Below w.heap.size w w':=by
 have HG:=hZ hG
 clear hG
 cases hv with
 |pair id b v u x y hj hb h1 h2=>exact absurd rfl (hna _ _ _)
 |num n h0 h1=>
  clear hna
  have a180:∀w,(Instr.typeAssert (.iface 180 (.int .i64 n)) 116 180 true).run prog w=.ok (.tuple #[.int .i64 n,.bool true]) w:=fun w=>is180 _ w
  have HN:=hZ (And.intro h0 h1)
  clear h0 h1
  go_enter func157,ntmps157
  go_wp2_with (go_at_call 218;refine(qdc n HN.out.1 HN.out.2 _ HG.out).mono ?_;rintro e w1 ⟨rfl,h1⟩;have H1:=hZ h1;clear h1)
  go_ret
  exact⟨rfl,H1.out⟩
 |bool b=>
  clear hna
  have a180:∀w,(Instr.typeAssert (.iface 181 (.bool b)) 116 180 true).run prog w=.ok (.tuple #[.int .i64 0,.bool false]) w:=fun w=>qbx _ _ (by decide) w
  have a181:∀w,(Instr.typeAssert (.iface 181 (.bool b)) 116 181 true).run prog w=.ok (.tuple #[.bool b,.bool true]) w:=fun w=>is181 _ w
  cases b
  all_goals
   go_enter func157,ntmps157
   go_wp2
   go_ret
   exact⟨rfl,Below.refl _ _⟩
 |str t hz=>
  clear hna
  have a180:∀w,(Instr.typeAssert (.iface 182 (.string t)) 116 180 true).run prog w=.ok (.tuple #[.int .i64 0,.bool false]) w:=fun w=>qbx _ _ (by decide) w
  have a181:∀w,(Instr.typeAssert (.iface 182 (.string t)) 116 181 true).run prog w=.ok (.tuple #[.bool false,.bool false]) w:=fun w=>qcf _ _ (by decide) w
  have a182:∀w,(Instr.typeAssert (.iface 182 (.string t)) 116 182 true).run prog w=.ok (.tuple #[.string t,.bool true]) w:=fun w=>is182 _ w
  go_enter func157,ntmps157
  go_wp2
  go_ret
  refine⟨?_,Below.refl _ _⟩
  simp only [Array.getD]
  exact congrArg (fun x=>Ending.returned (Value.string x)) (qlh t)
 |sym t hz=>
  clear hna
  have a180:∀w,(Instr.typeAssert (.iface 183 (.string t)) 116 180 true).run prog w=.ok (.tuple #[.int .i64 0,.bool false]) w:=fun w=>qbx _ _ (by decide) w
  have a181:∀w,(Instr.typeAssert (.iface 183 (.string t)) 116 181 true).run prog w=.ok (.tuple #[.bool false,.bool false]) w:=fun w=>qcf _ _ (by decide) w
  have a182:∀w,(Instr.typeAssert (.iface 183 (.string t)) 116 182 true).run prog w=.ok (.tuple #[.string ⟨#[]⟩,.bool false]) w:=fun w=>qce _ _ (by decide) w
  have a183:∀w,(Instr.typeAssert (.iface 183 (.string t)) 116 183 true).run prog w=.ok (.tuple #[.string t,.bool true]) w:=fun w=>is183 _ w
  clear hz
  go_enter func157,ntmps157
  go_wp2
  go_ret
  exact⟨rfl,Below.refl _ _⟩
 |nil=>
  clear hna
  have a180:∀w,(Instr.typeAssert (.iface 186 (.agg #[])) 116 180 true).run prog w=.ok (.tuple #[.int .i64 0,.bool false]) w:=fun w=>qbx _ _ (by decide) w
  have a181:∀w,(Instr.typeAssert (.iface 186 (.agg #[])) 116 181 true).run prog w=.ok (.tuple #[.bool false,.bool false]) w:=fun w=>qcf _ _ (by decide) w
  have a182:∀w,(Instr.typeAssert (.iface 186 (.agg #[])) 116 182 true).run prog w=.ok (.tuple #[.string ⟨#[]⟩,.bool false]) w:=fun w=>qce _ _ (by decide) w
  have a183:∀w,(Instr.typeAssert (.iface 186 (.agg #[])) 116 183 true).run prog w=.ok (.tuple #[.string ⟨#[]⟩,.bool false]) w:=fun w=>qcl _ _ (by decide) w
  have a186:∀w,(Instr.typeAssert (.iface 186 (.agg #[])) 116 186 true).run prog w=.ok (.tuple #[.agg #[],.bool true]) w:=fun w=>is186 _ w
  go_enter func157,ntmps157
  go_wp2
  go_ret
  exact⟨rfl,(Below.refl _ _).alloc (Nat.le_refl _) _⟩
 |none=>
  clear hna
  have a180:∀w,(Instr.typeAssert (.iface 379 (.agg #[])) 116 180 true).run prog w=.ok (.tuple #[.int .i64 0,.bool false]) w:=fun w=>qbx _ _ (by decide) w
  have a181:∀w,(Instr.typeAssert (.iface 379 (.agg #[])) 116 181 true).run prog w=.ok (.tuple #[.bool false,.bool false]) w:=fun w=>qcf _ _ (by decide) w
  have a182:∀w,(Instr.typeAssert (.iface 379 (.agg #[])) 116 182 true).run prog w=.ok (.tuple #[.string ⟨#[]⟩,.bool false]) w:=fun w=>qce _ _ (by decide) w
  have a183:∀w,(Instr.typeAssert (.iface 379 (.agg #[])) 116 183 true).run prog w=.ok (.tuple #[.string ⟨#[]⟩,.bool false]) w:=fun w=>qcl _ _ (by decide) w
  have a186:∀w,(Instr.typeAssert (.iface 379 (.agg #[])) 116 186 true).run prog w=.ok (.tuple #[.agg #[],.bool false]) w:=fun w=>qc0 _ _ (by decide) w
  have a281:∀w,(Instr.typeAssert (.iface 379 (.agg #[])) 116 281 true).run prog w=.ok (.tuple #[.pointer none,.bool false]) w:=fun w=>qcz _ _ (by decide) w
  have a285:∀w,(Instr.typeAssert (.iface 379 (.agg #[])) 116 285 true).run prog w=.ok (.tuple #[.pointer none,.bool false]) w:=fun w=>qjj _ _ (by decide) w
  have a322:∀w,(Instr.typeAssert (.iface 379 (.agg #[])) 116 322 true).run prog w=.ok (.tuple #[.pointer none,.bool false]) w:=fun w=>isnt322 _ _ (by decide) w
  go_enter func157,ntmps157
  go_wp2
  go_ret
  first|exact⟨rfl,Below.refl _ _⟩|exact⟨rfl,(Below.refl _ _).alloc (Nat.le_refl _) _⟩
 |proc v b hq=>
  clear hna
  have a180:∀w,(Instr.typeAssert (.iface 281 (bp b)) 116 180 true).run prog w=.ok (.tuple #[.int .i64 0,.bool false]) w:=fun w=>qbx _ _ (by decide) w
  have a181:∀w,(Instr.typeAssert (.iface 281 (bp b)) 116 181 true).run prog w=.ok (.tuple #[.bool false,.bool false]) w:=fun w=>qcf _ _ (by decide) w
  have a182:∀w,(Instr.typeAssert (.iface 281 (bp b)) 116 182 true).run prog w=.ok (.tuple #[.string ⟨#[]⟩,.bool false]) w:=fun w=>qce _ _ (by decide) w
  have a183:∀w,(Instr.typeAssert (.iface 281 (bp b)) 116 183 true).run prog w=.ok (.tuple #[.string ⟨#[]⟩,.bool false]) w:=fun w=>qcl _ _ (by decide) w
  have a186:∀w,(Instr.typeAssert (.iface 281 (bp b)) 116 186 true).run prog w=.ok (.tuple #[.agg #[],.bool false]) w:=fun w=>qc0 _ _ (by decide) w
  have a281:∀w,(Instr.typeAssert (.iface 281 (bp b)) 116 281 true).run prog w=.ok (.tuple #[bp b,.bool true]) w:=fun w=>qsd _ w
  have hat:Sc.atom v=[35,60,112,114,111,99,101,100,117,114,101,62]:=by cases hq <;> rfl
  rw [hat]
  clear hq hat
  go_enter func157,ntmps157
  go_wp2
  go_ret
  first|exact⟨rfl,Below.refl _ _⟩|exact⟨rfl,(Below.refl _ _).alloc (Nat.le_refl _) _⟩
 |«seal» id b q v x hj hb hq h=>
  clear hna
  have a180:∀w,(Instr.typeAssert (.iface 285 (bp b)) 116 180 true).run prog w=.ok (.tuple #[.int .i64 0,.bool false]) w:=fun w=>qbx _ _ (by decide) w
  have a181:∀w,(Instr.typeAssert (.iface 285 (bp b)) 116 181 true).run prog w=.ok (.tuple #[.bool false,.bool false]) w:=fun w=>qcf _ _ (by decide) w
  have a182:∀w,(Instr.typeAssert (.iface 285 (bp b)) 116 182 true).run prog w=.ok (.tuple #[.string ⟨#[]⟩,.bool false]) w:=fun w=>qce _ _ (by decide) w
  have a183:∀w,(Instr.typeAssert (.iface 285 (bp b)) 116 183 true).run prog w=.ok (.tuple #[.string ⟨#[]⟩,.bool false]) w:=fun w=>qcl _ _ (by decide) w
  have a186:∀w,(Instr.typeAssert (.iface 285 (bp b)) 116 186 true).run prog w=.ok (.tuple #[.agg #[],.bool false]) w:=fun w=>qc0 _ _ (by decide) w
  have a281:∀w,(Instr.typeAssert (.iface 285 (bp b)) 116 281 true).run prog w=.ok (.tuple #[.pointer none,.bool false]) w:=fun w=>qcz _ _ (by decide) w
  have a285:∀w,(Instr.typeAssert (.iface 285 (bp b)) 116 285 true).run prog w=.ok (.tuple #[bp b,.bool true]) w:=fun w=>is285 _ w
  clear hj hb hq h
  go_enter func157,ntmps157
  go_wp2
  go_ret
  first|exact⟨rfl,Below.refl _ _⟩|exact⟨rfl,(Below.refl _ _).alloc (Nat.le_refl _) _⟩
 |sealD id b q1 q2 d e hj hb h1 h2 h=>
  clear hna
  have a180:∀w,(Instr.typeAssert (.iface 285 (bp b)) 116 180 true).run prog w=.ok (.tuple #[.int .i64 0,.bool false]) w:=fun w=>qbx _ _ (by decide) w
  have a181:∀w,(Instr.typeAssert (.iface 285 (bp b)) 116 181 true).run prog w=.ok (.tuple #[.bool false,.bool false]) w:=fun w=>qcf _ _ (by decide) w
  have a182:∀w,(Instr.typeAssert (.iface 285 (bp b)) 116 182 true).run prog w=.ok (.tuple #[.string ⟨#[]⟩,.bool false]) w:=fun w=>qce _ _ (by decide) w
  have a183:∀w,(Instr.typeAssert (.iface 285 (bp b)) 116 183 true).run prog w=.ok (.tuple #[.string ⟨#[]⟩,.bool false]) w:=fun w=>qcl _ _ (by decide) w
  have a186:∀w,(Instr.typeAssert (.iface 285 (bp b)) 116 186 true).run prog w=.ok (.tuple #[.agg #[],.bool false]) w:=fun w=>qc0 _ _ (by decide) w
  have a281:∀w,(Instr.typeAssert (.iface 285 (bp b)) 116 281 true).run prog w=.ok (.tuple #[.pointer none,.bool false]) w:=fun w=>qcz _ _ (by decide) w
  have a285:∀w,(Instr.typeAssert (.iface 285 (bp b)) 116 285 true).run prog w=.ok (.tuple #[bp b,.bool true]) w:=fun w=>is285 _ w
  clear hj hb h1 h2 h
  go_enter func157,ntmps157
  go_wp2
  go_ret
  first|exact⟨rfl,Below.refl _ _⟩|exact⟨rfl,(Below.refl _ _).alloc (Nat.le_refl _) _⟩
 |grant n h=>
  clear hna
  have a180:∀w,(Instr.typeAssert (.iface 322 (bp (H.K n))) 116 180 true).run prog w=.ok (.tuple #[.int .i64 0,.bool false]) w:=fun w=>qbx _ _ (by decide) w
  have a181:∀w,(Instr.typeAssert (.iface 322 (bp (H.K n))) 116 181 true).run prog w=.ok (.tuple #[.bool false,.bool false]) w:=fun w=>qcf _ _ (by decide) w
  have a182:∀w,(Instr.typeAssert (.iface 322 (bp (H.K n))) 116 182 true).run prog w=.ok (.tuple #[.string ⟨#[]⟩,.bool false]) w:=fun w=>qce _ _ (by decide) w
  have a183:∀w,(Instr.typeAssert (.iface 322 (bp (H.K n))) 116 183 true).run prog w=.ok (.tuple #[.string ⟨#[]⟩,.bool false]) w:=fun w=>qcl _ _ (by decide) w
  have a186:∀w,(Instr.typeAssert (.iface 322 (bp (H.K n))) 116 186 true).run prog w=.ok (.tuple #[.agg #[],.bool false]) w:=fun w=>qc0 _ _ (by decide) w
  have a281:∀w,(Instr.typeAssert (.iface 322 (bp (H.K n))) 116 281 true).run prog w=.ok (.tuple #[.pointer none,.bool false]) w:=fun w=>qcz _ _ (by decide) w
  have a285:∀w,(Instr.typeAssert (.iface 322 (bp (H.K n))) 116 285 true).run prog w=.ok (.tuple #[.pointer none,.bool false]) w:=fun w=>qjj _ _ (by decide) w
  have a322:∀w,(Instr.typeAssert (.iface 322 (bp (H.K n))) 116 322 true).run prog w=.ok (.tuple #[bp (H.K n),.bool true]) w:=fun w=>is322 _ w
  clear h
  go_enter func157,ntmps157
  go_wp2
  go_ret
  first|exact⟨rfl,Below.refl _ _⟩|exact⟨rfl,(Below.refl _ _).alloc (Nat.le_refl _) _⟩
end
section
open Sc
attribute [local go_sem] Oper.semAt_some
theorem qfb {w w':World} (h:Below w.heap.size w w'):w.grownBy w' none:=⟨h.os,h.tape,h.output,h.size,fun i hi _=>h.block i hi⟩
theorem qha {F:Fence} (hd:F.depth=none) (k:Nat):F.room k:=fun d h=>by rw [hd]at h;cases h
theorem RoundIn.anyDepth {F:Fence} (hd:F.depth=none) {m m':Nat} {P:Program} {l:Nat} {f:FuncId} {tmps:Array Value} {assign body:Code} {w:World} {R:Ending→World→Prop}
  (h:RoundIn F m P l f tmps assign body w R):RoundIn F m' P l f tmps assign body w R:=⟨h.1,fun c cs _=>h.2 c cs (qha hd _)⟩
theorem YieldAt.anyDepth {F:Fence} (hd:F.depth=none) {m:Nat} (m':Nat) {P:Program} {l:Nat} {args:Array Value} {W:World} {R:Ending→World→Prop} (h:YieldAt F m P l args W R):YieldAt F m' P l args W R:=by
 obtain⟨fn,tmps,assign,body,hy,hR⟩:=h
 exact⟨fn,tmps,assign,body,hy,RoundIn.anyDepth hd hR⟩
structure Yl (l hi N:Nat) (J Jx:List UInt8→World→Prop):Prop where
 y:∀m pre (x:UInt8) W,J pre W→pre.length<N→YieldAt Fence.wide m prog l #[.int .u8 (x.toNat:Int)] W fun e W'=>(e=.returned (.bool true)∧J (pre++[x]) W'∧Below hi W W')∨(e=.returned (.bool false)∧Jx (pre++[x]) W')
 grow:∀pre W W',J pre W→W.grownBy W' none→J pre W'
def Yd (hi:Nat) (J Jx:List UInt8→World→Prop) (w:World) (pre t:List UInt8) (e:Ending) (W':World):Prop:=
 (e=.returned (.bool true)∧J (pre++t) W'∧Below hi w W')∨(e=.returned (.bool false)∧∃q,q<+:t∧Jx (pre++q) W')
theorem qg4 (s:ByteArray) (k:Nat) (h:k<s.size):s.data.toList.take (k+1)=s.data.toList.take k++[s[k]]:=by
 rw [List.take_succ_eq_append_getElem (by simpa using h)];rfl
theorem qds (l hi N:Nat) (J Jx:List UInt8→World→Prop) (hY:Yl l hi N J Jx) (w:World) (s:ByteArray) (pre:List UInt8) (n:Nat) (W:World) (hK:Below hi w W) (hJ:J pre W) (hN:pre.length+s.size≤N) (hN2:s.size≤2000000000):
  CallsIn Fence.wide n prog 156 #[.string s,.func (.yield l) #[] #[]] W fun e W'=>Yd hi J Jx w pre s.data.toList e W':=by
 have hdd:∀k:Nat,(Fence.wide.depth.isSome=true→1≤k):=fun k h=>by cases h
 have HY:=hZ hY
 have HK:=hZ hK
 have HJ:=hZ hJ
 clear hY hK hJ
 refine callsIn_of_wp func156 rfl trivial ?_ rfl
 simp only [ntmps156,List.size_toArray,List.length_cons,List.length_nil,Nat.reduceAdd,Nat.reduceSub,Array.replicate_succ,Array.replicate_zero,List.push_toArray,List.append_toArray,List.nil_append,List.cons_append]
 gi_wp2
 gi_loopw [8] (fun i wr=>∃k:Nat,k≤s.size∧i=.int .i64 (k:Int)∧J (pre++s.data.toList.take k) wr∧Below hi w wr) (fun i _=>s.size-(intOf i).toNat)
 case atStart=>exact⟨0,Nat.zero_le _,rfl,by simpa using HJ.out,HK.out⟩
 case round=>
  obtain⟨k,hk,rfl,hJk,hKk⟩:=hrel
  have HJk:=hZ hJk
  have HKk:=hZ hKk
  clear hJk hKk
  by_cases hlt:k<s.size
  ·have hki:(k:Int)<(s.size:Int):=by omega
   have hyy:=YieldAt.mono (R':=fun e W'=>(e=.returned (.bool true)∧J (pre++s.data.toList.take (k+1)) W'∧Below hi w W')∨(e=.returned (.bool false)∧Jx (pre++s.data.toList.take (k+1)) W'))
    (HY.out.y (n-1) _ s[k] wr HJk.out (by
     have:s.data.toList.length=s.size:=by simp
     simp;omega)) fun e W' h=>h.elim
     (fun⟨he,hj,hk'⟩=>.inl ⟨he,by rw [qg4 s k hlt,←List.append_assoc];exact hj,HKk.out.trans hk'⟩) (fun⟨he,hj⟩=>.inr ⟨he,by rw [qg4 s k hlt,←List.append_assoc];exact hj⟩)
   obtain⟨fn,tmps,assign,body,hy,hR⟩:=hyy
   gi_wp2_with ((try refine⟨hdd _,?_⟩);refine hR.mono ?_;clear hR;rintro e W2 (⟨rfl,hJ2,hK2⟩|⟨rfl,hx2⟩))
   ·exact⟨⟨k+1,by omega,by first|rfl|go_num,hJ2,hK2⟩,by simp [intOf];omega⟩
   ·go_ret
    exact .inr ⟨rfl,_,List.take_prefix _ _,hx2⟩
  ·have hke:k=s.size:=by omega
   have HKe:=hZ hke
   have hki:¬((k:Int)<(s.size:Int)):=by omega
   clear hke
   gi_wp2
   go_ret
   have:=HJk.out
   rw [List.take_of_length_le (by rw [HKe.out];simp)]at this
   exact .inl ⟨rfl,this,HKk.out⟩
end
end Go.Proofs.YtldaocpojcfljaaGreatDoor
