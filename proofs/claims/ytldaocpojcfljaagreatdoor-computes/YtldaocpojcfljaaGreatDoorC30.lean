import Derived.Test.YtldaocpojcfljaaGreatDoorC29
set_option maxRecDepth 100000
set_option maxHeartbeats 4000000
namespace Go.Proofs.YtldaocpojcfljaaGreatDoor
open Tryz hiding parts
open Go.RowKit Go.Shelf
section
open Sc
def lookS {α:Type} (s:List UInt8):List (List UInt8×α)→Option α
 | []=>none
 |(t,a)::r=>if s=t then some a else lookS s r
theorem qhv (t:ByteArray):∀(es:List MapEntry) (L:List (List UInt8×Value)) (i:Nat),es.map (fun e=>(e.key,e.val))=L.map (fun p=>(Value.string ⟨p.1.toArray⟩,p.2))→
  ∃r,Instr.findNow .string (.string t) es i=some r∧r.map (·.2)=lookS t.data.toList L
 | [],[],i,_=>⟨none,rfl,rfl⟩
 | [],_::_,i,h=>by simp at h
 |_::_,[],i,h=>by simp at h
 |e::es,(s,b)::L,i,h=>by
  simp only [List.map_cons,List.cons.injEq,Prod.mk.injEq]at h
  obtain⟨⟨h1,h2⟩,h3⟩:=h
  simp only [Instr.findNow,h1,Instr.sameNow,qb8,lookS]
  by_cases hs:t.data.toList=s
  ·simp [hs,h2]
  ·simp only [hs,decide_false]
   obtain⟨r,e1,e2⟩:=qhv t es L (i+1) h3
   exact⟨r,e1,by simpa [hs]using e2⟩
theorem qi8 (mp:Nat) (es:Array MapEntry) (clock:Nat) (L:List (List UInt8×Value)) (t:ByteArray) (w:World) (hw:w.heap[mp]? =some (.map es clock)) (hL:es.toList.map (fun e=>(e.key,e.val))=L.map (fun p=>(Value.string ⟨p.1.toArray⟩,p.2))):
  (Instr.lookup 325 (.map (some mp)) (.string t) true).run prog w=.ok (.tuple #[(lookS t.data.toList L).getD (.slice none 0 0),.bool (lookS t.data.toList L).isSome]) w:=by
 obtain⟨r,e1,e2⟩:=qhv t es.toList L 0 hL
 have hg:=qa5 mp es clock w hw
 cases r with
 |none=>
  cases hl:lookS t.data.toList L with
  |none=>simp [Instr.lookup,run_underlying underlying325,go_sem,hg,qjv,Instr.findKey,run_underlying underlying9,e1]
  |some b=>rw [hl]at e2;simp at e2
 |some p=>
  cases hl:lookS t.data.toList L with
  |none=>rw [hl]at e2;simp at e2
  |some b=>rw [hl]at e2;obtain⟨i,v⟩:=p;simp at e2;subst e2;simp [Instr.lookup,run_underlying underlying325,go_sem,hg,qjv,Instr.findKey,run_underlying underlying9,e1]
theorem McRows.look {R:Gh→Macro→Value→Prop} {G:Gh} (s:Bs):∀{ms:List Macro} {L:List (Bs×Value)},McRows R G ms L→(lookS s L).isSome=(ms.find? (fun m=>m.name==s)).isSome∧∀v,lookS s L=some v→∃mc,ms.find? (fun m=>m.name==s)=some mc∧R G mc v
 |_,_,.nil=>⟨rfl,fun v h=>by cases h⟩
 |_,_,.cons mc v ms L h _ hs=>by
  by_cases e:s=mc.name
  ·subst e
   exact⟨by simp [lookS],fun u hu=>⟨mc,by simp,by simp [lookS]at hu;subst hu;exact h⟩⟩
  ·have e':(mc.name==s)=false:=by simpa using Ne.symm e
   obtain⟨h1,h2⟩:=McRows.look s hs
   exact⟨by simpa [lookS,e,e']using h1,fun u hu=>by
    obtain⟨mc',h3,h4⟩:=h2 u (by simpa [lookS,e]using hu)
    exact⟨mc',by simpa [e']using h3,h4⟩⟩
theorem qgd {K:Rl} {X:Xe} {G:Gh} {S:Sub} {m:Mc} {x:Xs} {sc:Scope} {w:World} (g:Inv G S m w) (i:XInv K X G S x sc w) (t:ByteArray) (k:Int):
  Calls prog 318 #[bp X.xb,idV t k] w fun e w'=>e=.returned (.tuple #[.int .i64 (meanN x (t.data.toList,k) sc),meanA (t.data.toList,k) sc])∧Below w.heap.size w w':=by
 obtain⟨es,clock,L,hm1,hm2,hm3⟩:=i.mc
 have hml:X.mm<w.heap.size:=(Array.getElem?_eq_some_iff.1 hm1).1
 have c3:w.cell? ⟨X.xb,3,none⟩=some (.pointer (some ⟨X.ab,0,none⟩)):=by rw [g.cell i.xe];rfl
 have c2:w.cell? ⟨X.xb,2,none⟩=some (.map (some X.mm)):=by rw [g.cell i.xe];rfl
 have hlk:=(hm3.look t.data.toList).1
 obtain⟨u,n,bd,hfv,hbd,hA⟩:∃(u n:Int) (bd:Bool),findV (t.data.toList,k) sc=.tuple #[.agg #[.int .i64 u,.int .i64 n],.bool bd]∧bd=(find (t.data.toList,k) sc).isSome∧meanA (t.data.toList,k) sc=.agg #[.int .i64 u,.int .i64 n]:=by
  unfold findV meanA
  cases find (t.data.toList,k) sc with
  |none=>exact⟨0,0,false,rfl,rfl,rfl⟩
  |some p=>exact⟨p.1,p.2,true,rfl,rfl,rfl⟩
 refine Calls.mono (mean318 X.xb G.mb X.rb X.mm X.ab t k bd (Kw.of t.data.toList).isSome (lookS t.data.toList L).isSome u n ((lookS t.data.toList L).getD (.slice none 0 0)) w c3 c2 (fun w' hb=>?_) (fun w' hb=>qi8 X.mm es clock L t w' (by rw [hb.block _ hml];exact hm1) hm2) (fun w'=>qgi t w')) ?_
 ·refine Calls.mono (qsp (i.below hb) t k) ?_
  rintro e w2 ⟨rfl,h⟩
  exact⟨by rw [hfv],h⟩
 ·rintro e w' ⟨rfl,hb⟩
  refine⟨?_,hb⟩
  rw [hA,hlk,hbd]
  congr 3
  unfold meanN Xs.mcr
  cases find (t.data.toList,k) sc with
  |none=>simp
  |some p=>simp
end
section
open Sc
theorem qow (xb:Nat) (xk xn:Int) (xtr:Bool) (xtx:ByteArray) (xm:Int) (xa:Option Addr) (xcap:Nat) (w:World):
  Calls prog 288 #[.pointer (some ⟨xb,0,none⟩),.agg (Dl.cells ⟨xk,xn,xtr,xtx,xm,xa,0,xcap⟩)] w fun e w'=>e=.returned (.tuple #[.int .i64 3,.string ⟨#[]⟩])∧Below w.heap.size w w':=by
 go_enter func288,ntmps288
 go_wp2
 go_ret2
 exact⟨rfl,bl1 (by exact⟨rfl,rfl,rfl,rfl⟩)⟩
theorem ql9 (xb g o n:Nat) (xk xn yk:Int) (xtr:Bool) (xtx:ByteArray) (xm:Int) (xcap:Nat) (w:World) (c0:w.cell? ⟨g,o,none⟩=some (.int .i64 yk)) (hk:yk≠3) (hn:n+1≤1000000):
  Calls prog 288 #[.pointer (some ⟨xb,0,none⟩),.agg (Dl.cells ⟨xk,xn,xtr,xtx,xm,some ⟨g,o,none⟩,n+1,xcap⟩)] w fun e w'=>e=.returned (.tuple #[.int .i64 3,.string ⟨#[]⟩])∧Below w.heap.size w w':=by
 have l0:=qac c0
 have hk':(yk==3)=false:=by simpa using hk
 have hk2:(yk !=3)=true:=by simpa using hk
 have h1:¬((n:Int)+1=0):=by omega
 have h2:(0:Int)<(n:Int)+1:=by omega
 go_enter func288,ntmps288
 go_wp2
 go_ret2
 exact⟨rfl,bl1 (by exact⟨rfl,rfl,rfl,rfl⟩)⟩
theorem qr9 (xb g o n:Nat) (xk xn:Int) (xtr:Bool) (xtx:ByteArray) (xm:Int) (xcap:Nat) (yn:Int) (ytr:Bool) (ytx:ByteArray) (ym:Int) (ya:Option Addr) (ylen ycap:Nat) (mn:Int) (_av:Array Value) (w:World)
  (c0:w.cell? ⟨g,o,none⟩=some (.int .i64 3)) (c1:w.cell? ⟨g,o+1,none⟩=some (.int .i64 yn)) (c2:w.cell? ⟨g,o+2,none⟩=some (.bool ytr)) (c3:w.cell? ⟨g,o+3,none⟩=some (.string ytx)) (c4:w.cell? ⟨g,o+4,none⟩=some (.int .i64 ym)) (c5:w.cell? ⟨g,o+5,none⟩=some (.slice ya ylen ycap)) (hn:n+1≤1000000)
  (hM:∀w',Below w.heap.size w w'→Calls prog 318 #[.pointer (some ⟨xb,0,none⟩),.agg #[.string ytx,.int .i64 ym]] w' fun e w2=>(∃u v,e=.returned (.tuple #[.int .i64 mn,.agg #[.int .i64 u,.int .i64 v]]))∧Below w'.heap.size w' w2):
  Calls prog 288 #[.pointer (some ⟨xb,0,none⟩),.agg (Dl.cells ⟨xk,xn,xtr,xtx,xm,some ⟨g,o,none⟩,n+1,xcap⟩)] w fun e w'=>e=.returned (.tuple #[.int .i64 mn,.string ytx])∧Below w.heap.size w w':=by
 have l0:=qac c0
 have h1:¬((n:Int)+1=0):=by omega
 have h2:(0:Int)<(n:Int)+1:=by omega
 have HM:=hZ hM
 clear hM
 go_enter func288,ntmps288
 go_wp2_with (go_at_call 296;refine(qbt yn ytr ytx ym ya ylen ycap _).mono ?_;rintro e w2 ⟨rfl,hb⟩;refine Hid.out ?_)
 have hb0:Below w.heap.size w w2:=(qab _ _).trans (hb.mono (by simp))
 have HB0:=hZ hb0
 clear hb hb0
 refine hZ ?_
 go_wp2_with (go_at_call 318;refine(HM.out _ (HB0.out.trans ((qab _ _).mono HB0.out.size))).mono ?_;rintro e w3 ⟨⟨u,v,rfl⟩,hb⟩;refine Hid.out ?_)
 have hnm:(w2.alloc (.cells #[.string ytx,.int .i64 ym] 382)).heap[w2.heap.size]? =some (.cells #[.string ytx,.int .i64 ym] 382 (0,0)):=heap_alloc_new _ _
 have hnm3:w3.heap[w2.heap.size]? =some (.cells #[.string ytx,.int .i64 ym] 382 (0,0)):=by rw [hb.block _ (by simp)];exact hnm
 have n0:w3.cell? ⟨w2.heap.size,0,none⟩=some (.string ytx):=by simp only [World.cell?,hnm3];rfl
 have ln:=qac n0
 have HB3:Hid (Below w.heap.size w w3):=(HB0.out.trans ((qab _ _).mono HB0.out.size)).trans (hb.mono (by have:=HB0.out.size;simp;omega))
 clear hb hnm hnm3 HM
 have n1:=qaj (o:=.cells #[.int .i64 u,.int .i64 v] 395) n0
 refine hZ ?_
 go_wp2_with (fail)
 go_region
 go_wp2
 go_ret2
 exact⟨rfl,HB3.out.trans ((bl1 (o:=.cells #[.int .i64 u,.int .i64 v] 395) (by exact⟨rfl,rfl,rfl,rfl⟩)).mono HB3.out.size)⟩
end
section
open Sc
def leadN (x:Xs) (sc:Scope):Dt→Int×Bs
 | .list (.sym t k::_)=>(meanN x (t,k) sc,t)
 |_=>(3,[])
theorem qkm {K:Rl} {X:Xe} {G:Gh} {S:Sub} {m:Mc} {x:Xs} {sc:Scope} {w:World} {d:Dt} {e:Dl} (g:Inv G S m w) (i:XInv K X G S x sc w) (hd:DRep G d e):
  Calls prog 288 #[bp X.xb,.agg e.cells] w fun e' w'=>e'=.returned (.tuple #[.int .i64 (leadN x sc d).1,.string ⟨(leadN x sc d).2.toArray⟩])∧Below w.heap.size w w':=by
 obtain⟨xk,xn,xtr,xtx,xm,xa,xlen,xcap⟩:=e
 have none':xlen=0→leadN x sc d=(3,[])→Calls prog 288 #[bp X.xb,.agg (Dl.cells ⟨xk,xn,xtr,xtx,xm,xa,xlen,xcap⟩)] w fun e' w'=>e'=.returned (.tuple #[.int .i64 (leadN x sc d).1,.string ⟨(leadN x sc d).2.toArray⟩])∧Below w.heap.size w w':=fun h0 h1=>by
  subst h0
  rw [h1]
  exact qow X.xb xk xn xtr xtx xm xa xcap w
 cases hd with
 |num e h h0 h1 hc=>exact none' hc.1 rfl
 |bool e h hc=>exact none' hc.1 rfl
 |str e h hs hc=>exact none' hc.1 rfl
 |sym e h hs hc=>exact none' hc rfl
 |nil e h hl=>exact none' hl rfl
 |list e h l es gg o arr hl hc hm ha hg hr hs=>
  obtain rfl:xa=some ⟨gg,o,none⟩:=ha
  cases hs with
  |nil=>exact none' hl rfl
  |cons d0 r e0 er h0 hs=>
   obtain⟨yk,yn,ytr,ytx,ym,ya,ylen,ycap⟩:=e0
   obtain rfl:xlen=er.length+1:=hl
   have hm:er.length+1≤30000:=hm
   have cell:∀j,j<6→w.cell? ⟨gg,o+j,none⟩=(Dl.cells ⟨yk,yn,ytr,ytx,ym,ya,ylen,ycap⟩)[j]?:=fun j hj=>by
    rw [g.cell hg,←hr 0 j _ rfl hj];simp
   have c0:w.cell? ⟨gg,o,none⟩=some (.int .i64 yk):=cell 0 (by omega)
   have other:yk≠3→leadN x sc (.list (d0::r))=(3,[])→Calls prog 288 #[bp X.xb,.agg (Dl.cells ⟨xk,xn,xtr,xtx,xm,some ⟨gg,o,none⟩,er.length+1,xcap⟩)] w fun e' w'=>e'=.returned (.tuple #[.int .i64 (leadN x sc (.list (d0::r))).1,.string ⟨(leadN x sc (.list (d0::r))).2.toArray⟩])∧Below w.heap.size w w':=fun hk h1=>by
    rw [h1]
    exact ql9 X.xb gg o er.length xk xn yk xtr xtx xm xcap w c0 hk (by omega)
   cases h0 with
   |num e h h0 h1 hc=>exact other (by have h:yk=0:=h;omega) rfl
   |bool e h hc=>exact other (by have h:yk=1:=h;omega) rfl
   |str e h hs hc=>exact other (by have h:yk=2:=h;omega) rfl
   |nil e h hl=>exact other (by have h:yk=4:=h;omega) rfl
   |list e h l es gg o arr hl hc hm ha hg hr hs=>exact other (by have h:yk=4:=h;omega) rfl
   |sym e h hs hc=>
    obtain rfl:yk=3:=h
    refine Calls.mono (qr9 X.xb gg o er.length xk xn xtr xtx xm xcap yn ytr ytx ym ya ylen ycap (meanN x (ytx.data.toList,ym) sc) #[] w c0 (cell 1 (by omega)) (cell 2 (by omega)) (cell 3 (by omega)) (cell 4 (by omega)) (cell 5 (by omega)) (by omega) (fun w' hb=>?_)) ?_
    ·refine Calls.mono (qgd (g.below hb) (i.below hb) ytx ym) ?_
     rintro e w2 ⟨rfl,h2⟩
     refine⟨?_,h2⟩
     unfold meanA
     cases find (ytx.data.toList,ym) sc with
     |none=>exact⟨0,0,rfl⟩
     |some p=>exact⟨p.1,p.2,rfl⟩
    ·rintro e' w' ⟨rfl,hb⟩
     exact⟨rfl,hb⟩
def kwN (x:Xs) (sc:Scope) (d:Dt):Bs:=if(leadN x sc d).1=1 then(leadN x sc d).2 else []
theorem qmc (xb:Nat) (xk xn:Int) (xtr:Bool) (xtx:ByteArray) (xm:Int) (xa:Option Addr) (xlen xcap:Nat) (mn:Int) (s:ByteArray) (w:World) (hL:∀w',Below w.heap.size w w'→Calls prog 288 #[.pointer (some ⟨xb,0,none⟩),.agg (Dl.cells ⟨xk,xn,xtr,xtx,xm,xa,xlen,xcap⟩)] w' fun e w2=>e=.returned (.tuple #[.int .i64 mn,.string s])∧Below w'.heap.size w' w2):
  Calls prog 232 #[.pointer (some ⟨xb,0,none⟩),.agg (Dl.cells ⟨xk,xn,xtr,xtx,xm,xa,xlen,xcap⟩)] w fun e w'=>e=.returned (.string (if mn=1 then s else⟨#[]⟩))∧Below w.heap.size w w':=by
 have HL:=hZ hL
 clear hL
 by_cases h1:mn=1
 ·subst h1
  go_enter func232,ntmps232
  go_wp2_with (go_at_call 288;refine(HL.out _ (by first|exact bl0 (by exact⟨rfl,rfl,rfl,rfl⟩)|exact bl1 (by exact⟨rfl,rfl,rfl,rfl⟩))).mono ?_;rintro e w2 ⟨rfl,hb⟩;have HB:=hZ hb;clear hb)
  go_ret
  exact⟨rfl,(bl1 (by exact⟨rfl,rfl,rfl,rfl⟩)).trans (HB.out.mono (by simp))⟩
 ·have h2:(mn==1)=false:=by simpa using h1
  have h3:(mn !=1)=true:=by simpa using h1
  rw [if_neg h1]
  go_enter func232,ntmps232
  go_wp2_with (go_at_call 288;refine(HL.out _ (by first|exact bl0 (by exact⟨rfl,rfl,rfl,rfl⟩)|exact bl1 (by exact⟨rfl,rfl,rfl,rfl⟩))).mono ?_;rintro e w2 ⟨rfl,hb⟩;have HB:=hZ hb;clear hb)
  go_ret
  exact⟨rfl,(bl1 (by exact⟨rfl,rfl,rfl,rfl⟩)).trans (HB.out.mono (by simp))⟩
theorem qer {K:Rl} {X:Xe} {G:Gh} {S:Sub} {m:Mc} {x:Xs} {sc:Scope} {w:World} {d:Dt} {e:Dl} (g:Inv G S m w) (i:XInv K X G S x sc w) (hd:DRep G d e):
  Calls prog 232 #[bp X.xb,.agg e.cells] w fun e' w'=>e'=.returned (.string ⟨(kwN x sc d).toArray⟩)∧Below w.heap.size w w':=by
 obtain⟨xk,xn,xtr,xtx,xm,xa,xlen,xcap⟩:=e
 refine Calls.mono (qmc X.xb xk xn xtr xtx xm xa xlen xcap (leadN x sc d).1 ⟨(leadN x sc d).2.toArray⟩ w fun w' hb=>qkm (g.below hb) (i.below hb) hd) ?_
 rintro e' w' ⟨rfl,hb⟩
 refine⟨?_,hb⟩
 unfold kwN
 by_cases h:(leadN x sc d).1=1 <;> simp [h]
end
section
open Sc
def Kept (xb:Nat) (w w' w2:World):Prop:=∀b,b<w'.heap.size→(w.heap.size≤b∨b=xb)→w2.heap[b]? =w'.heap[b]?
theorem Kept.cell {xb:Nat} {w w' w2:World} (h:Kept xb w w' w2) {b k:Nat} {v:Value} (hv:w'.cell? ⟨b,k,none⟩=some v) (hb:w.heap.size≤b∨b=xb):w2.cell? ⟨b,k,none⟩=some v:=by
 have:=h b (qac hv) hb
 simp only [World.cell?,this]at hv⊢;exact hv
theorem qk6 (xb mb:Nat) (u n:Int) (t:ByteArray) (m:Int) (w:World) (Q:Ending→World→Prop) (c0:w.cell? ⟨xb,0,none⟩=some (.pointer (some ⟨mb,0,none⟩)))
  (hM:∀w',Below w.heap.size w w'→Calls prog 318 #[.pointer (some ⟨xb,0,none⟩),.agg #[.string t,.int .i64 m]] w' fun e w2=>e=.returned (.tuple #[.int .i64 0,.agg #[.int .i64 u,.int .i64 n]])∧Below w'.heap.size w' w2)
  (hK:∀w',Below w.heap.size w w'→Calls prog 331 #[.pointer (some ⟨mb,0,none⟩),.agg #[.int .i64 u,.int .i64 n]] w' fun e w2=>(∃v,e=.returned v)∧Kept xb w w' w2∧Q e w2):
  Calls prog 295 #[.pointer (some ⟨xb,0,none⟩),idV t m] w Q:=by
 have l0:=qac c0
 have HM:=hZ hM
 have HK:=hZ hK
 clear hM hK
 go_enter func295,ntmps295
 go_wp2_with (first|(go_at_call 318;refine(HM.out _ (bl1 (by exact⟨rfl,rfl,rfl,rfl⟩))).mono ?_;rintro e w2 ⟨rfl,hb⟩;refine Hid.out ?_))
 have hb2:Below w.heap.size w w2:=(qab _ _).trans (hb.mono (by simp))
 have hb3:Below w.heap.size w (w2.alloc (.cells #[.int .i64 u,.int .i64 n] 395)):=hb2.trans ((qab _ _).mono hb2.size)
 have d0:(w2.alloc (.cells #[.int .i64 u,.int .i64 n] 395)).cell? ⟨xb,0,none⟩=some (.pointer (some ⟨mb,0,none⟩)):=qaj ((hb2.cell (p:=⟨xb,0,none⟩) l0).trans c0)
 have hq:=heap_alloc_new w2 (.cells #[.int .i64 u,.int .i64 n] 395)
 have d1:(w2.alloc (.cells #[.int .i64 u,.int .i64 n] 395)).cell? ⟨w2.heap.size,0,none⟩=some (.int .i64 u):=by simp only [World.cell?,hq];rfl
 have d2:(w2.alloc (.cells #[.int .i64 u,.int .i64 n] 395)).cell? ⟨w2.heap.size,1,none⟩=some (.int .i64 n):=by simp only [World.cell?,hq];rfl
 have hzq:w.heap.size≤w2.heap.size:=hb2.size
 have HB3:=hZ hb3
 clear hb hb2 hb3 HM hq
 refine hZ ?_
 go_wp2_with (go_at_call 290;refine(qam _).mono ?_;rintro e w3 ⟨rfl,hww⟩;obtain rfl:=hww.symm)
 generalize hW:w2.alloc (.cells #[.int .i64 u,.int .i64 n] 395)=W at HB3 d0 d1 d2⊢
 generalize w2.heap.size=q at d1 d2 hzq⊢
 clear hW
 go_region_held3 (fun w'=>w'.cell? ⟨xb,0,none⟩=some (.pointer (some ⟨mb,0,none⟩))∧w'.cell? ⟨q,0,none⟩=some (.int .i64 u)∧w'.cell? ⟨q,1,none⟩=some (.int .i64 n)) (first|(exact⟨d0,d1,d2⟩)|(exact HS1.out)|go_keep)
  (first|(go_at_call 331;refine(HK.out _ (HB3.out.trans ((bl0 (by exact⟨rfl,rfl,rfl,rfl⟩)).mono HB3.out.size))).mono ?_;rintro e w3 ⟨⟨v,rfl⟩,hkp,hq⟩;have HS1:=hZ (And.intro (hkp.cell (v:=.pointer (some ⟨mb,0,none⟩)) (by exact d0) (.inr rfl)) (And.intro (hkp.cell (v:=.int .i64 u) (by exact d1) (.inl hzq)) (hkp.cell (v:=.int .i64 n) (by exact d2) (.inl hzq))));have HQ:=hZ hq;clear hq hkp))
 all_goals go_wp2
 all_goals exact HQ.out
theorem qk7 (xb mb:Nat) (u n:Int) (t:ByteArray) (m:Int) (w:World) (Q:Ending→World→Prop) (c0:w.cell? ⟨xb,0,none⟩=some (.pointer (some ⟨mb,0,none⟩)))
  (hM:∀w',Below w.heap.size w w'→Calls prog 318 #[.pointer (some ⟨xb,0,none⟩),.agg #[.string t,.int .i64 m]] w' fun e w2=>e=.returned (.tuple #[.int .i64 3,.agg #[.int .i64 u,.int .i64 n]])∧Below w'.heap.size w' w2)
  (hK:∀w',Below w.heap.size w w'→Calls prog 332 #[.pointer (some ⟨mb,0,none⟩),.string t] w' fun e w2=>(∃v,e=.returned v)∧Kept xb w w' w2∧Q e w2):
  Calls prog 295 #[.pointer (some ⟨xb,0,none⟩),idV t m] w Q:=by
 have l0:=qac c0
 have HM:=hZ hM
 have HK:=hZ hK
 clear hM hK
 have hnm:=heap_alloc_new w (.cells #[.string t,.int .i64 m] 382)
 go_enter func295,ntmps295
 go_wp2_with (first|(go_at_call 318;refine(HM.out _ (bl1 (by exact⟨rfl,rfl,rfl,rfl⟩))).mono ?_;rintro e w2 ⟨rfl,hb⟩;refine Hid.out ?_))
 have hb2:Below w.heap.size w w2:=(qab _ _).trans (hb.mono (by simp))
 have hb3:Below w.heap.size w (w2.alloc (.cells #[.int .i64 u,.int .i64 n] 395)):=hb2.trans ((qab _ _).mono hb2.size)
 have d0:(w2.alloc (.cells #[.int .i64 u,.int .i64 n] 395)).cell? ⟨xb,0,none⟩=some (.pointer (some ⟨mb,0,none⟩)):=qaj ((hb2.cell (p:=⟨xb,0,none⟩) l0).trans c0)
 have hn2:w2.heap[w.heap.size]? =some (.cells #[.string t,.int .i64 m] 382 (0,0)):=by rw [hb.block _ (by simp)];exact hnm
 have d1:(w2.alloc (.cells #[.int .i64 u,.int .i64 n] 395)).cell? ⟨w.heap.size,0,none⟩=some (.string t):=qaj (by simp only [World.cell?,hn2];rfl)
 have HB3:=hZ hb3
 clear hb hb2 hb3 HM hnm hn2
 refine hZ ?_
 go_wp2_with (go_at_call 290;refine(qam _).mono ?_;rintro e w3 ⟨rfl,hww⟩;obtain rfl:=hww.symm)
 generalize hW:w2.alloc (.cells #[.int .i64 u,.int .i64 n] 395)=W at HB3 d0 d1⊢
 generalize w2.heap.size=q
 clear hW
 go_region_held3 (fun w'=>w'.cell? ⟨xb,0,none⟩=some (.pointer (some ⟨mb,0,none⟩))∧w'.cell? ⟨w.heap.size,0,none⟩=some (.string t)) (first|(exact⟨d0,d1⟩)|(exact HS1.out)|go_keep)
  (first|(go_at_call 332;refine(HK.out _ (HB3.out.trans ((bl0 (by exact⟨rfl,rfl,rfl,rfl⟩)).mono HB3.out.size))).mono ?_;rintro e w3 ⟨⟨v,rfl⟩,hkp,hq⟩;have HS1:=hZ (And.intro (hkp.cell (v:=.pointer (some ⟨mb,0,none⟩)) (by exact d0) (.inr rfl)) (hkp.cell (v:=.string t) (by exact d1) (.inl (Nat.le_refl _))));have HQ:=hZ hq;clear hq hkp))
 all_goals go_wp2
 all_goals exact HQ.out
theorem qk5 (xb:Nat) (mn u n:Int) (t:ByteArray) (m:Int) (w:World) (h0:mn≠0) (h3:mn≠3)
  (hM:∀w',Below w.heap.size w w'→Calls prog 318 #[.pointer (some ⟨xb,0,none⟩),.agg #[.string t,.int .i64 m]] w' fun e w2=>e=.returned (.tuple #[.int .i64 mn,.agg #[.int .i64 u,.int .i64 n]])∧Below w'.heap.size w' w2):
  Calls prog 295 #[.pointer (some ⟨xb,0,none⟩),idV t m] w fun e w'=>e=.panicked (stopP (stopV 4))∧Below w.heap.size w w':=by
 have HM:=hZ hM
 have e0:(mn==0)=false:=by simpa using h0
 have e3:(mn==3)=false:=by simpa using h3
 clear hM
 go_enter func295,ntmps295
 go_wp2_with (first|(go_at_call 318;refine(HM.out _ (bl1 (by exact⟨rfl,rfl,rfl,rfl⟩))).mono ?_;rintro e w2 ⟨rfl,hb⟩;refine Hid.out ?_))
 have hb2:Below w.heap.size w w2:=(qab _ _).trans (hb.mono (by simp))
 have HB3:Hid (Below w.heap.size w (w2.alloc (.cells #[.int .i64 u,.int .i64 n] 395))):=hb2.trans ((qab _ _).mono hb2.size)
 clear hb hb2 HM
 refine hZ ?_
 go_wp2_with (go_at_call 290;refine(qax _).mono ?_;rintro e w3 ⟨rfl,o,rfl⟩)
 exact⟨rfl,rfl,HB3.out.trans ((qab _ _).mono HB3.out.size)⟩
end
section
open Sc
theorem qhy {i:Sc.Id}:∀{l:List Sc.Id} {n:Nat},findIn i l=some n→n<l.length
 | [],n,h=>by simp [findIn]at h
 |j::r,n,h=>by
  by_cases e:j=i
  ·simp [findIn,e]at h;subst h;simp
  ·simp only [findIn,if_neg e,Option.map_eq_some_iff]at h
   obtain⟨k,h1,rfl⟩:=h
   have:=qhy h1
   simp;omega
theorem qjp {i:Sc.Id}:∀{sc:Scope} {u n:Nat},find i sc=some (u,n)→∃l,sc[u]? =some l∧n<l.length
 | [],u,n,h=>by simp [find]at h
 |l::r,u,n,h=>by
  cases hf:findIn i l with
  |some k=>simp [find,hf]at h;obtain⟨rfl,rfl⟩:=h;exact⟨l,rfl,qhy hf⟩
  |none=>
   simp only [find,hf,Option.map_eq_some_iff]at h
   obtain⟨⟨a,b⟩,h1,h2⟩:=h
   cases h2
   obtain⟨l',h3,h4⟩:=qjp h1
   exact⟨l',by simpa using h3,h4⟩
abbrev shOf (sc:Scope):List Nat:=sc.map List.length
theorem Made.kept {G:Gh} {S:Sub} {m m0:Mc} {w w' w2:World} {sh:List Nat} {e:Ex} {e':Ending} {xb:Nat} {o:Obj} (g:Inv G S m0 w) (hx:G.I xb=some o) (h:Made G S m w' sh e e' w2):Kept xb w w' w2:=by
 obtain⟨H,x,_,hm,_⟩:=h
 intro b hb hk
 refine hm.blk hb fun hmem=>?_
 rcases hk with hk|rfl
 ·have:=g.ml hmem;omega
 ·have:=g.mi hmem;rw [this]at hx;cases hx
theorem var_inv {K:Rl} {X:Xe} {G:Gh} {S:Sub} {m:Mc} {x:Xs} {sc:Scope} {w:World} (g:Inv G S m w) (i:XInv K X G S x sc w) (t:ByteArray) (k:Int):
  Calls prog 295 #[bp X.xb,idV t k] w fun e' w'=>match varEx x (t.data.toList,k) sc with
   |some ex=>Made G S m w (shOf sc) ex e' w'
   |none=>e'=.panicked (stopP (stopV 4))∧Below w.heap.size w w':=by
 have c0:w.cell? ⟨X.xb,0,none⟩=some (.pointer (some ⟨G.mb,0,none⟩)):=by rw [g.cell i.xe];rfl
 have hM:∀w',Below w.heap.size w w'→Calls prog 318 #[bp X.xb,idV t k] w' fun e w2=>e=.returned (.tuple #[.int .i64 (meanN x (t.data.toList,k) sc),meanA (t.data.toList,k) sc])∧Below w'.heap.size w' w2:=fun w' hb=>qgd (g.below hb) (i.below hb) t k
 cases hf:find (t.data.toList,k) sc with
 |some p=>
  obtain⟨u,n⟩:=p
  have hv:varEx x (t.data.toList,k) sc=some (.loc u n):=by simp [varEx,Xs.means,hf]
  rw [hv]
  have e1:meanN x (t.data.toList,k) sc=0:=by simp [meanN,hf]
  have e2:meanA (t.data.toList,k) sc=.agg #[.int .i64 (u:Int),.int .i64 (n:Int)]:=by simp [meanA,hf]
  rw [e1,e2]at hM
  obtain⟨l,hl1,hl2⟩:=qjp hf
  have hul:u<sc.length:=(List.getElem?_eq_some_iff.1 hl1).1
  have hll:l.length≤1000000000:=i.sz.2 l (List.mem_of_getElem? hl1)
  refine qk6 X.xb G.mb u n t k w _ c0 hM fun w' hb=>?_
  refine Calls.mono (qr1 (sh:=shOf sc) (u:=u) (j:=n) (n:=l.length) (g.below hb) (by simp [shOf,hl1]) hl2 ⟨by have:=i.sz.1;omega,hll⟩) ?_
  intro e w2 h
  exact⟨Made.ends _ _ h,h.kept g i.xe,h.after (Mv.ext (Gh.ext.refl _ _) hb)⟩
 |none=>
  have e2:meanA (t.data.toList,k) sc=.agg #[.int .i64 ((0:Nat):Int),.int .i64 ((0:Nat):Int)]:=by simp [meanA,hf]
  by_cases hg:meanN x (t.data.toList,k) sc=3
  ·have hv:varEx x (t.data.toList,k) sc=some (.glo t.data.toList):=by
    unfold meanN at hg
    rw [hf]at hg
    simp only at hg
    unfold varEx Xs.means
    rw [hf]
    cases hk:Kw.of t.data.toList with
    |some kk=>rw [hk]at hg;simp at hg
    |none=>
     rw [hk]at hg
     cases hm:x.mcr t.data.toList with
     |some mm=>rw [hm]at hg;simp at hg
     |none=>rfl
   rw [hv]
   rw [hg,e2]at hM
   refine qk7 X.xb G.mb 0 0 t k w _ c0 hM fun w' hb=>?_
   refine Calls.mono (glo_mk (sh:=shOf sc) (t:=t) (g.below hb)) ?_
   intro e w2 h
   exact⟨Made.ends _ _ h,h.kept g i.xe,h.after (Mv.ext (Gh.ext.refl _ _) hb)⟩
  ·have hv:varEx x (t.data.toList,k) sc=none:=by
    unfold meanN at hg
    rw [hf]at hg
    simp only at hg
    unfold varEx Xs.means
    rw [hf]
    cases hk:Kw.of t.data.toList with
    |some kk=>rfl
    |none=>
     rw [hk]at hg
     cases hm:x.mcr t.data.toList with
     |some mm=>rfl
     |none=>rw [hm]at hg;simp at hg
   rw [hv]
   rw [e2]at hM
   have h0:meanN x (t.data.toList,k) sc≠0:=by
    unfold meanN
    rw [hf]
    simp only
    split
    ·decide
    ·split <;> decide
   exact qk5 X.xb _ 0 0 t k w h0 hg hM
end
section
open Sc
def useD (x:Xs) (mc:Macro) (args:List Dt) (sc:Scope):Option Dt:=match mc.rules.findSome? (fun r=>(matchL mc.lits sc r.1 args).map (fun b=>(b,r.2)))with
 |none=>none
 |some (b,t)=>match putT x.count b t with
  |none=>none
  |some d=>if parts d≤600 then some d else none
theorem use_eq (S:Sub) (x:Xs) (mc:Macro) (args:List Dt) (sc:Scope):use S x mc args sc=if S.rewrites≤(x.count:Int)then(.error 12,x)else match useD {x with count:=x.count+1} mc args sc with
  |none=>(.error 4,{x with count:=x.count+1})
  |some d=>(.ok (d,{x with count:=x.count+1}),{x with count:=x.count+1}):=by
 unfold use useD
 split
 ·rfl
 ·simp only
  split <;> rename_i h <;> rw [h] <;> simp only
  split <;> rename_i h2 <;> rw [h2] <;> simp only
  split <;> rfl
def rewr (S:Sub):Nat→Xs→Scope→Dt→Except Nat Dt×Xs
 |0,x,_,_=>(.error 0,x)
 |f+1,x,sc,d=>match d with
  | .list (.sym t k::r)=>match x.means (t,k) sc with
   | .mac mc=>match use S x mc r sc with
    |(.error e,x)=>(.error e,x)
    |(.ok (d,x),_)=>rewr S f x sc d
   |_=>(.ok d,x)
  |d=>(.ok d,x)
end
section
open Sc
def RwPost (K:Rl) (X:Xe) (G:Gh) (S:Sub) (m:Mc) (sc:Scope) (w:World) (rv:Except Nat Dt×Xs) (e':Ending) (w':World):Prop:=
 (∃H d' x' e2,rv=(.ok d',x')∧e'=.returned (.agg (Dl.cells e2))∧Mx X G w X H w'∧Inv H S m w'∧XInv K X H S x' sc w'∧DRep H d' e2)∨
 (∃vd x',rv=(.error vd,x')∧e'=.panicked (stopP (stopV vd))∧Cnt G S m w'∧Mt X.rb (Xs.count x') S.rewrites 12 w')
theorem qgg {x:Xs} {sc:Scope} {d:Dt} (h:(leadN x sc d).1=2):∃t k r mc,d=.list (.sym t k::r)∧x.means (t,k) sc=.mac mc∧x.mcr t=some mc∧(leadN x sc d).2=t:=by
 unfold leadN at h⊢
 split at h
 ·rename_i t k r
  unfold meanN at h
  cases hf:find (t,k) sc with
  |some p=>rw [hf]at h;simp at h
  |none=>
   rw [hf]at h
   simp only at h
   cases hk:Kw.of t with
   |some kk=>rw [hk]at h;simp at h
   |none=>
    rw [hk]at h
    cases hm:x.mcr t with
    |none=>rw [hm]at h;simp at h
    |some mc=>exact⟨t,k,r,mc,rfl,by simp [Xs.means,hf,hk,hm],hm,rfl⟩
 ·simp at h
theorem qeq {S:Sub} {x:Xs} {sc:Scope} {d:Dt} {j:Nat} (h:(leadN x sc d).1≠2):rewr S (j+1) x sc d=(.ok d,x):=by
 unfold rewr
 split
 ·rename_i t k r
  have:∀mc,x.means (t,k) sc≠.mac mc:=fun mc hm=>by
   apply h
   unfold Xs.means at hm
   unfold leadN meanN
   cases hf:find (t,k) sc with
   |some p=>rw [hf]at hm;simp at hm
   |none=>
    rw [hf]at hm
    simp only at hm⊢
    cases hk:Kw.of t with
    |some kk=>rw [hk]at hm;simp at hm
    |none=>
     rw [hk]at hm
     cases hmm:x.mcr t with
     |none=>rw [hmm]at hm;simp at hm
     |some mc=>simp [hf]
  split
  ·rename_i mc hm;exact absurd hm (this mc)
  ·rfl
 ·rfl
theorem XInv.set {K:Rl} {X:Xe} {G:Gh} {S:Sub} {x:Xs} {sc:Scope} {w:World} (i:XInv K X G S x sc w) {b o:Nat} {v:Value} (hb:b∉[X.rb,X.mm,X.ab,X.bm]) (hr:¬X.Rw b):XInv K X G S x sc (w.setCell ⟨b,o,none⟩ v):=by
 have kb:∀c,c≠b→(w.setCell ⟨b,o,none⟩ v).heap[c]? =w.heap[c]?:=fun c hc=>qaa (a:=⟨b,o,none⟩) c hc
 have kx:∀c,c∈[X.rb,X.mm,X.ab,X.bm]→(w.setCell ⟨b,o,none⟩ v).heap[c]? =w.heap[c]?:=fun c hc=>kb c fun e=>hb (e▸hc)
 obtain⟨L,hL,hLb⟩:=i.bd
 obtain⟨es,clock,M,hm1,hm2,hm3⟩:=i.mc
 refine⟨i.xe,i.mt.keep (kx _ (by simp)),i.ml,by rw [kx _ (by simp)];exact i.ab,⟨L,⟨by rw [kx _ (by simp)];exact hL.1,hL.2.1,fun p hp=>?_,hL.2.2.2⟩,hLb⟩,fun c hc=>by rw [qaf];exact i.rr c hc,⟨es,clock,M,by rw [kx _ (by simp)];exact hm1,hm2,hm3⟩,i.lo,i.nd,by rw [qaf];exact i.sl,i.sz⟩
 have ho:=hL.2.2.1 p hp
 refine⟨ho.1,?_⟩
 rcases ho.2 with h|⟨g,cap,cur,hv,hb',hg,hr'⟩
 ·exact .inl h
 ·have hmem:g∈L.filterMap (·.2.ownBlock):=List.mem_filterMap.2 ⟨p,hp,by rw [hv];rfl⟩
  exact .inr ⟨g,cap,cur,hv,hb',by rw [kb g fun e=>hr (e▸hLb g hmem)];exact hg,hr'⟩
abbrev set6 (W:World) (b:Nat) (v0 v1 v2 v3 v4 v5:Value):World:=(((((W.setCell ⟨b,0,none⟩ v0).setCell ⟨b,1,none⟩ v1).setCell ⟨b,2,none⟩ v2).setCell ⟨b,3,none⟩ v3).setCell ⟨b,4,none⟩ v4).setCell ⟨b,5,none⟩ v5
theorem qed {W:World} {b t:Nat} {x0 x1 x2 x3 x4 x5 v0 v1 v2 v3 v4 v5:Value} (h:W.heap[b]? =some (.cells #[x0,x1,x2,x3,x4,x5] t (0,0))):(set6 W b v0 v1 v2 v3 v4 v5).heap[b]? =some (.cells #[v0,v1,v2,v3,v4,v5] t (0,0)):=by
 simp [World.setCell,Array.getElem?_modify,h]
theorem qnx {W:World} {b c:Nat} {v0 v1 v2 v3 v4 v5:Value} (h:c≠b):(set6 W b v0 v1 v2 v3 v4 v5).heap[c]? =W.heap[c]?:=by
 rw [qaa (a:=⟨b,5,none⟩) c h,qaa (a:=⟨b,4,none⟩) c h,qaa (a:=⟨b,3,none⟩) c h,qaa (a:=⟨b,2,none⟩) c h,qaa (a:=⟨b,1,none⟩) c h,qaa (a:=⟨b,0,none⟩) c h]
theorem qrc {G:Gh} {S:Sub} {m:Mc} {W:World} {b:Nat} {v0 v1 v2 v3 v4 v5:Value} (i:Inv G S m W) (hI:G.I b=none) (hm:b∉G.mut) (hf:¬G.F b):Inv G S m (set6 W b v0 v1 v2 v3 v4 v5):=(((((i.loose hI hm hf).loose hI hm hf).loose hI hm hf).loose hI hm hf).loose hI hm hf).loose hI hm hf
theorem set6_x {K:Rl} {X:Xe} {G:Gh} {S:Sub} {x:Xs} {sc:Scope} {W:World} {b:Nat} {v0 v1 v2 v3 v4 v5:Value} (i:XInv K X G S x sc W) (hb:b∉[X.rb,X.mm,X.ab,X.bm]) (hr:¬X.Rw b):XInv K X G S x sc (set6 W b v0 v1 v2 v3 v4 v5):=(((((i.set hb hr).set hb hr).set hb hr).set hb hr).set hb hr).set hb hr
end
section
open Sc
def RetP (P:Value→World→Prop) (Q:Ending→World→Prop) (e:Ending) (w:World):Prop:=(∃ps,e=.panicked ps∧Q (.panicked ps) w)∨(∃v,e=.returned v∧P v w)
theorem qjk:(prog.info? 241).map (fun i=>(i.zero,i.size,i.bytes))=some (some .nilFunc,1,8):=by kernel_rfl
theorem qmn (xb:Nat) (xa:Option Addr) (xlen xcap:Nat) (dk:Nat→Dl) (w:World) (Q:Ending→World→Prop) (R:Nat→World→Prop) (h100:xlen≤1000000)
  (h0:∀w',Lk (w.alloc (.cells (madeCells #[.nilFunc] xlen) 241)) w'→R 0 w')
  (hrow:∀k wr,R k wr→k<xlen→∃g o,xa=some ⟨g,o,none⟩∧∀j,j<6→wr.cell? ⟨g,o+k*6+j,none⟩=(dk k).cells[j]?)
  (hcall:∀k wr,R k wr→k<xlen→∀w',Lk (wr.alloc (.cells (dk k).cells 134)) w'→Calls prog 236 #[bp xb,.agg (dk k).cells] w' (RetP (fun v w2=>(∃kc cc,v=.func (.func kc) #[] cc)∧(∃z,w2.cell? ⟨w.heap.size,k,none⟩=some z)∧w2.frozen? ⟨w.heap.size,k,none⟩=false∧∀w3,Lk (w2.setCell ⟨w.heap.size,k,none⟩ v) w3→R (k+1) w3) Q))
  (hend:∀wr,R xlen wr→Q (.returned (.slice (some ⟨w.heap.size,0,none⟩) xlen xlen)) wr):
  Calls prog 334 #[bp xb,.slice xa xlen xcap] w Q:=by
 have hmk:∀w:World,(Instr.makeSlice 426 (.int .i64 (xlen:Int)) (.int .i64 (xlen:Int))).run prog w=.ok (.slice (some ⟨w.heap.size,0,none⟩) xlen xlen) (w.alloc (.cells (madeCells #[.nilFunc] xlen) 241)):=
  fun w=>run_make_row' 426 241 .nilFunc 8 underlying426 qjk rfl .i64 .i64 xlen (by omega) (by omega) w
 have H0:=hZ h0
 have HRow:=hZ hrow
 have HCall:=hZ hcall
 have HEnd:=hZ hend
 clear h0 hrow hcall hend
 go_enter func334,ntmps334
 go_wp2
 go_loopw [13] (fun c wr=>∃(k:Nat),k≤xlen∧c=.int .i64 (k:Int)∧R k wr) (fun c _=>xlen-(intOf c).toNat)
 case atStart=>exact⟨0,Nat.zero_le _,rfl,H0.out _ (by exact⟨rfl,rfl,rfl,rfl⟩)⟩
 case round=>
  obtain⟨k,hk,rfl,hR⟩:=hrel
  have HR:=hZ hR
  clear hR
  by_cases hlt:k<xlen
  ·obtain⟨⟨yk,yn,ytr,ytx,ym,ya,ylen,ycap⟩,hy⟩:∃y,y=dk k:=⟨_,rfl⟩
   obtain⟨g,o,rfl,cell⟩:=HRow.out k wr HR.out hlt
   rw [←hy]at cell
   have c0:wr.cell? ⟨g,o+k*6,none⟩=some (.int .i64 yk):=cell 0 (by omega)
   have c1:wr.cell? ⟨g,o+k*6+1,none⟩=some (.int .i64 yn):=cell 1 (by omega)
   have c2:wr.cell? ⟨g,o+k*6+2,none⟩=some (.bool ytr):=cell 2 (by omega)
   have c3:wr.cell? ⟨g,o+k*6+3,none⟩=some (.string ytx):=cell 3 (by omega)
   have c4:wr.cell? ⟨g,o+k*6+4,none⟩=some (.int .i64 ym):=cell 4 (by omega)
   have c5:wr.cell? ⟨g,o+k*6+5,none⟩=some (.slice ya ylen ycap):=cell 5 (by omega)
   have hc:=HCall.out k wr HR.out hlt
   rw [←hy]at hc
   have HC:=hZ hc
   clear cell hc hy
   have hkl':(k:Int)<(xlen:Int):=by omega
   go_wp2_with (go_at_call 236;refine(HC.out _ (by exact⟨rfl,rfl,rfl,rfl⟩)).mono ?_;rintro e w2 (⟨ps,rfl,hq⟩|⟨v,rfl,⟨kc,cc,rfl⟩,⟨z,cz⟩,fz,hK⟩);(exact⟨rfl,hq⟩);have HK:=hZ hK;clear hK;refine Hid.out ?_)
   refine hZ ?_
   go_wp2
   go_roundw
   case rel=>exact⟨k+1,by omega,by go_num,HK.out _ (by exact⟨rfl,rfl,rfl,rfl⟩)⟩
   case measure=>simp [intOf];omega
  ·have hke:k=xlen:=by omega
   have hR:=HR.out
   rw [hke]at hR
   have HR2:=hZ hR
   clear hR HR
   have hnl:¬(k:Int)<(xlen:Int):=by omega
   clear hke
   go_wp2
   exact HEnd.out _ HR2.out
end
end Go.Proofs.YtldaocpojcfljaaGreatDoor
