import Derived.Test.YtldaocpojcfljaaGreatDoorC03
set_option maxRecDepth 100000
set_option maxHeartbeats 4000000
namespace Go.Proofs.YtldaocpojcfljaaGreatDoor
open Tryz hiding parts
section
namespace Rd
open Go.RowKit
theorem _root_.Go.RowKit.Below.drewN' {B:Nat} {a w:World} (h:Below B a w) (n:Nat):Below B a (w.drewN n):=⟨h.os,h.tape,h.output,h.size,h.block⟩
theorem Bset {B:Nat} {a w:World} {g o:Nat} {v:Value} (h:Below B a w) (hg:B≤g):Below B a (w.setCell ⟨g,o,none⟩ v):=h.setCell (p:=⟨g,o,none⟩) hg v
theorem B6 {B:Nat} {a w:World} {g:Nat} (h:Below B a w) (hg:B≤g) (v0 v1 v2 v3 v4 v5:Value):Below B a ((((((w.setCell ⟨g,0,none⟩ v0).setCell ⟨g,1,none⟩ v1).setCell ⟨g,2,none⟩ v2).setCell ⟨g,3,none⟩ v3).setCell ⟨g,4,none⟩ v4).setCell ⟨g,5,none⟩ v5):=
 Bset (Bset (Bset (Bset (Bset (Bset h hg) hg) hg) hg) hg) hg
theorem qo6 (w:World) (g k:Nat) (hk:k≠g) (v0 v1 v2 v3 v4 v5:Value):((((((w.setCell ⟨g,0,none⟩ v0).setCell ⟨g,1,none⟩ v1).setCell ⟨g,2,none⟩ v2).setCell ⟨g,3,none⟩ v3).setCell ⟨g,4,none⟩ v4).setCell ⟨g,5,none⟩ v5).heap[k]? =w.heap[k]?:=by
 rw [Below.heap_setCell _ _ _ _ hk,Below.heap_setCell _ _ _ _ hk,Below.heap_setCell _ _ _ _ hk,Below.heap_setCell _ _ _ _ hk,Below.heap_setCell _ _ _ _ hk,Below.heap_setCell _ _ _ _ hk]
structure Box (g:Nat) (w:World):Prop where
 c0:∃v,w.cell? ⟨g,0,none⟩=some v
 c1:∃v,w.cell? ⟨g,1,none⟩=some v
 c2:∃v,w.cell? ⟨g,2,none⟩=some v
 c3:∃v,w.cell? ⟨g,3,none⟩=some v
 c4:∃v,w.cell? ⟨g,4,none⟩=some v
 c5:∃v,w.cell? ⟨g,5,none⟩=some v
 fz:∀o,w.frozen? ⟨g,o,none⟩=false
theorem Box.of {g:Nat} {w:World} {v0 v1 v2 v3 v4 v5:Value} (h:w.heap[g]? =some (.cells #[v0,v1,v2,v3,v4,v5] 134 (0,0))):Box g w:=
 ⟨⟨v0,by simp [World.cell?,h]⟩,⟨v1,by simp [World.cell?,h]⟩,⟨v2,by simp [World.cell?,h]⟩,⟨v3,by simp [World.cell?,h]⟩,⟨v4,by simp [World.cell?,h]⟩,⟨v5,by simp [World.cell?,h]⟩,fun o=>by simp [World.frozen?,h]⟩
theorem qgt (w:World) (o1 o2:Obj) (n:Nat):Below w.heap.size w (((w.alloc o1).alloc o2).drewN n):=
 (((Below.refl _ _).alloc (Nat.le_refl _) _).alloc (by simp) _).drewN' _
structure El where
 k:Int
 n:Int
 tr:Bool
 tx:ByteArray
 m:Int
 a:Option Addr
 len:Nat
 cap:Nat
abbrev El.v (e:El):Value:=.agg #[.int .i64 e.k,.int .i64 e.n,.bool e.tr,.string e.tx,.int .i64 e.m,.slice e.a e.len e.cap]
abbrev El.nil:El:=⟨0,0,false,⟨#[]⟩,0,none,0,0⟩
theorem qdu (tx:ByteArray) (w:World):
  Calls prog 239 #[.string tx] w fun e w'=>e=.returned (El.v ⟨3,0,false,tx,0,none,0,0⟩)∧Below w.heap.size w w':=by
 go_enter func239,ntmps239
 go_wp2
 exact bodyPost_ret (v:=El.v ⟨3,0,false,tx,0,none,0,0⟩) (by simp [results,results239,go_sem]) rfl ⟨rfl,(Below.refl _ _).alloc (Nat.le_refl _) _⟩
theorem qdv (tx:ByteArray) (w:World):
  Calls prog 241 #[.string tx] w fun e w'=>e=.returned (El.v ⟨2,0,false,tx,0,none,0,0⟩)∧Below w.heap.size w w':=by
 go_enter func241,ntmps241
 go_wp2
 exact bodyPost_ret (v:=El.v ⟨2,0,false,tx,0,none,0,0⟩) (by simp [results,results241,go_sem]) rfl ⟨rfl,(Below.refl _ _).alloc (Nat.le_refl _) _⟩
theorem qei (b:Bool) (w:World):
  Calls prog 243 #[.bool b] w fun e w'=>e=.returned (El.v ⟨1,0,b,⟨#[]⟩,0,none,0,0⟩)∧Below w.heap.size w w':=by
 go_enter func243,ntmps243
 go_wp2
 exact bodyPost_ret (v:=El.v ⟨1,0,b,⟨#[]⟩,0,none,0,0⟩) (by simp [results,results243,go_sem]) rfl ⟨rfl,(Below.refl _ _).alloc (Nat.le_refl _) _⟩
theorem qdw (n:Int) (w:World):
  Calls prog 248 #[.int .i64 n] w fun e w'=>e=.returned (El.v ⟨0,n,false,⟨#[]⟩,0,none,0,0⟩)∧Below w.heap.size w w':=by
 go_enter func248,ntmps248
 go_wp2
 exact bodyPost_ret (v:=El.v ⟨0,n,false,⟨#[]⟩,0,none,0,0⟩) (by simp [results,results248,go_sem]) rfl ⟨rfl,(Below.refl _ _).alloc (Nat.le_refl _) _⟩
theorem new2 (w:World) (o1 o2:Obj):((w.alloc o1).alloc o2).heap[w.heap.size+1]? =some o2:=by
 have:=heap_alloc_new (w.alloc o1) o2
 rwa [show(w.alloc o1).heap.size=w.heap.size+1 from by simp]at this
theorem qbb (c p:Int) (w:World):
  Calls prog 147 #[.int .i64 c,.int .i64 p] w fun e w'=>∃N,e=.returned (.tuple #[El.nil.v,.pointer (some ⟨N,0,none⟩)])∧w.heap.size≤N∧w'.heap[N]? =some (.cells #[.int .i64 c,.int .i64 p] 126 (0,0))∧Below w.heap.size w w':=by
 go_enter func147,ntmps147
 go_wp2
 exact bodyPost_ret (v:=.tuple #[El.nil.v,.pointer (some ⟨w.heap.size+1,0,none⟩)]) (by simp [results,results147,go_sem]) rfl ⟨_,rfl,by omega,new2 _ _ _,((Below.refl _ _).alloc (Nat.le_refl _) _).alloc (by simp) _⟩
theorem qs2 (c:UInt8):Px.digB c=(decide (48≤(c.toNat:Int))&&decide ((c.toNat:Int)≤57)):=by
 unfold Px.digB;rw [Bool.eq_iff_iff];simp;omega
theorem qc2 (c:UInt8) (w:World):
  Calls prog 244 #[.int .u8 (c.toNat:Int)] w fun e w'=>e=.returned (.bool (Px.digB c))∧w'=w:=by
 rw [qs2]
 go_enter func244,ntmps244
 go_wp2
 all_goals go_ret
 all_goals exact⟨by simp [*] <;> omega,rfl⟩
theorem qqx (c:UInt8):Px.strB c=(decide (32≤(c.toNat:Int))&&decide ((c.toNat:Int)≤126)&&!((c.toNat:Int)==34)&&!((c.toNat:Int)==92)):=by
 unfold Px.strB;rw [Bool.eq_iff_iff];simp;omega
theorem qbe (c:UInt8) (w:World):
  Calls prog 240 #[.int .u8 (c.toNat:Int)] w fun e w'=>e=.returned (.bool (Px.strB c))∧w'=w:=by
 rw [qqx]
 go_enter func240,ntmps240
 go_wp2
 all_goals go_ret
 all_goals refine⟨?_,rfl⟩
 all_goals simp [*]
 all_goals first|omega|rfl
theorem qs1:∀n:Fin 256,decide (0≤Lib.indexByte [32,10,40,41,39,34,59] (UInt8.ofNat n.val))=Px.endB (UInt8.ofNat n.val):=by decide+kernel
theorem qs0 (c:UInt8):decide (0≤Lib.indexByte [32,10,40,41,39,34,59] c)=Px.endB c:=by
 have:=qs1 ⟨c.toNat,c.toNat_lt⟩
 simpa using this
theorem qbm (c:UInt8) (w:World):
  Calls prog 299 #[.int .u8 (c.toNat:Int)] w fun e w'=>e=.returned (.bool (Px.endB c))∧w'=w:=by
 rw [←qs0]
 go_enter func299,ntmps299
 go_wp2_with (go_at_call 245;refine(Tryz.strings_IndexByte _ _ _).mono ?_;rintro e w' ⟨rfl,rfl⟩)
 go_ret
 exact⟨by simp,rfl⟩
theorem qnc:∀n:Fin 256,Px.wordB (UInt8.ofNat n.val)=(decide (97≤n.val∧n.val≤122)||Px.digB (UInt8.ofNat n.val)||decide (0≤Lib.indexByte [43,45,42,47,60,62,61,63,33,95,46,58] (UInt8.ofNat n.val))):=by decide+kernel
theorem qnb (c:UInt8):Px.wordB c=(decide (97≤c.toNat∧c.toNat≤122)||Px.digB c||decide (0≤Lib.indexByte [43,45,42,47,60,62,61,63,33,95,46,58] c)):=by
 have:=qnc ⟨c.toNat,c.toNat_lt⟩
 simpa using this
theorem qa0 (c:UInt8) (w:World):
  Calls prog 153 #[.int .u8 (c.toNat:Int)] w fun e w'=>e=.returned (.bool (Px.wordB c))∧w'=w:=by
 have HW:Hid (Px.wordB c=(decide (97≤c.toNat∧c.toNat≤122)||Px.digB c||decide (0≤Lib.indexByte [43,45,42,47,60,62,61,63,33,95,46,58] c))):=qnb c
 cases hd:Px.digB c
 all_goals
  go_enter func153,ntmps153
  go_wp2_with (first|(go_at_call 244;refine(qc2 c _).mono ?_;rintro e w' ⟨rfl,rfl⟩)|(go_at_call 245;refine(Tryz.strings_IndexByte _ _ _).mono ?_;rintro e w' ⟨rfl,rfl⟩))
  all_goals go_ret
  all_goals refine⟨?_,rfl⟩
  all_goals rw [HW.out]
  all_goals simp [*]
  all_goals first|omega|(rw [Bool.eq_iff_iff];simp;omega)
theorem qb6 (b:Nat) (s:ByteArray) (p d:Nat) (x:El) (w:World) (h:Rd b s p d w) (hp:∀hlt:p<s.size,Px.endB s[p]=true) (hps:p≤s.size):
  Calls prog 242 #[.pointer (some ⟨b,0,none⟩),x.v] w fun e w'=>e=.returned (.tuple #[x.v,.pointer none])∧Below w.heap.size w w':=by
 obtain⟨k,n,tr,tx,m,a,len,cap⟩:=x
 have h0:=h.c0
 have h1:=h.c1
 have HR:Hid (Rd b s p d w):=h
 have hb:=h.lt
 clear h
 by_cases hlt:p<s.size
 ·have hd:((p:Int)==(s.size:Int))=false:=by simp;omega
  have he:=hp hlt
  clear hp
  go_enter func242,ntmps242
  go_wp2
  go_quiet ((first|(go_at_call 87;exact Calls.quiet_of (qah b s p d _ (((HR.out.alloc _).alloc _).drewN _)))|(go_at_call 299;exact Calls.quiet_of_same (qbm _ _))))
  go_wp2
  refine bodyPost_ret (v:=.tuple #[El.v ⟨k,n,tr,tx,m,a,len,cap⟩,.pointer none]) (by simp [results,results242,go_sem]) rfl ⟨rfl,B6 (qgt _ _ _ _) (by omega) _ _ _ _ _ _⟩
 ·have hd:((p:Int)==(s.size:Int))=true:=by simp;omega
  clear hp
  go_enter func242,ntmps242
  go_wp2
  go_quiet ((first|(go_at_call 87;exact Calls.quiet_of (qah b s p d _ (((HR.out.alloc _).alloc _).drewN _)))|(go_at_call 299;exact Calls.quiet_of_same (qbm _ _))))
  go_wp2
  refine bodyPost_ret (v:=.tuple #[El.v ⟨k,n,tr,tx,m,a,len,cap⟩,.pointer none]) (by simp [results,results242,go_sem]) rfl ⟨rfl,B6 (qgt _ _ _ _) (by omega) _ _ _ _ _ _⟩
theorem qct (b:Nat) (s:ByteArray) (p d:Nat) (x:El) (w:World) (h:Rd b s p d w) (hlt:p<s.size) (he:Px.endB s[p]=false):
  Calls prog 242 #[.pointer (some ⟨b,0,none⟩),x.v] w fun e w'=>∃N,e=.returned (.tuple #[El.nil.v,.pointer (some ⟨N,0,none⟩)])∧w.heap.size≤N∧w'.heap[N]? =some (.cells #[.int .i64 2,.int .i64 p] 126 (0,0))∧Below w.heap.size w w':=by
 obtain⟨k,n,tr,tx,m,a,len,cap⟩:=x
 have h0:=h.c0
 have h1:=h.c1
 have HR:Hid (Rd b s p d w):=h
 have hb:=h.lt
 clear h
 have hd:((p:Int)==(s.size:Int))=false:=by simp;omega
 go_enter func242,ntmps242
 go_wp2
 go_quiet ((first|(go_at_call 87;exact Calls.quiet_of (qah b s p d _ (((HR.out.alloc _).alloc _).drewN _)))|(go_at_call 299;exact Calls.quiet_of_same (qbm _ _))))
 go_wp2_with (go_at_call 147;refine(qbb _ _ _).mono ?_;rintro e w' ⟨N,rfl,hN,hN2,hbl⟩;refine Hid.out ?_)
 refine hZ ?_
 have hsz:w.heap.size+2≤N:=by simpa using hN
 have hb2:Below w.heap.size w w':=(qgt w _ _ nq).trans (hbl.mono (by simp;omega))
 have hsz2:N<w'.heap.size:=(Array.getElem?_eq_some_iff.1 hN2).1
 have H2:Hid (w'.heap[N]? =some (Obj.cells #[Value.int IntKind.i64 2,Value.int IntKind.i64 ↑p] 126)):=hN2
 have HB2:Hid (Below w.heap.size w w'):=hb2
 have hx:Box (w.heap.size+1) w':=Box.of (by rw [hbl.block _ (by simp)];exact new2 _ _ _)
 obtain⟨⟨y0,k0⟩,⟨y1,k1⟩,⟨y2,k2⟩,⟨y3,k3⟩,⟨y4,k4⟩,⟨y5,k5⟩,kf⟩:=hx
 clear hN hN2 hbl hb2
 go_wp2
 exact bodyPost_ret (v:=.tuple #[El.nil.v,.pointer (some ⟨N,0,none⟩)]) (by simp [results,results242,go_sem, *]) rfl ⟨N,rfl,by omega,by rw [qo6 _ _ _ (by omega)];exact H2.out,B6 HB2.out (by omega) _ _ _ _ _ _⟩
end Rd
end
section
namespace Rd
open Go.RowKit
def El.cells (e:El):List Value:=[.int .i64 e.k,.int .i64 e.n,.bool e.tr,.string e.tx,.int .i64 e.m,.slice e.a e.len e.cap]
abbrev El.sl (e:El):Value:=.slice e.a e.len e.cap
abbrev NoB:Nat→Prop:=fun _=>False
structure Row (lo:Nat) (own:Nat→Prop) (w:World) (e:El) (es:List El):Prop where
 len:es.length=e.len
 owns:w.ownsRow lo 134 6 e.sl e.len (es.flatMap El.cells)
 far:∀g,own g→e.sl.ownBlock≠some g
def Rep (lo:Nat) (own:Nat→Prop) (w:World):Nat→El→Dt→Prop
 |0,_,_=>False
 |m+1,e,t=>
  (e.k=0∧t=.num e.n∧-9223372036854775808≤e.n∧e.n≤9223372036854775807∧e.len=0∧e.tr=false∧e.tx=⟨#[]⟩)∨(e.k=1∧t=.bool e.tr∧e.len=0∧e.n=0∧e.tx=⟨#[]⟩)∨(e.k=2∧t=.str e.tx.data.toList∧e.len=0∧e.n=0∧e.tr=false)∨(e.k=3∧t=.sym e.tx.data.toList e.m∧e.len=0)∨
  (e.k=4∧∃(es:List El) (ts:List Dt),t=.list ts∧es.length=ts.length∧Row lo own w e es∧∀(i:Nat) (x:El) (u:Dt),es[i]? =some x→ts[i]? =some u→Rep lo own w m x u)
theorem qdj {w:World} {lo lo':Nat} {e:TypeId} {z:Nat} {v:Value} {n:Nat} {xs:List Value} (h:w.ownsRow lo e z v n xs) (hl:lo'≤lo):w.ownsRow lo' e z v n xs:=by
 refine⟨h.1,?_⟩
 rcases h.2 with h|⟨g,cap,cur,h1,h2,r⟩
 ·exact .inl h
 ·exact .inr ⟨g,cap,cur,h1,Nat.le_trans hl h2,r⟩
theorem Row.kept {lo:Nat} {own:Nat→Prop} {row:Option Nat} {w w':World} {e:El} {es:List El} (h:Row lo own w e es) (hg:w.grownBy w' row) (hr:∀g,row=some g→g<lo∨own g):Row lo own w' e es:=by
 refine⟨h.len,h.owns.kept hg ?_,h.far⟩
 cases hv:e.sl.ownBlock with
 |none=>exact .inl rfl
 |some k=>
  right
  intro hk
  have h1:=h.owns.lt k hv
  rcases hr k hk.symm with h2|h2
  ·omega
  ·exact h.far k h2 hv
theorem Rep.kept {lo:Nat} {own:Nat→Prop} {row:Option Nat} {w w':World} (hg:w.grownBy w' row) (hr:∀g,row=some g→g<lo∨own g):
  ∀{m:Nat} {e:El} {t:Dt},Rep lo own w m e t→Rep lo own w' m e t
 |0,_,_,h=>False.elim h
 |m+1,e,t,h=>by
  rcases h with h|h|h|h|⟨hk,es,ts,ht,hl,hrow,hall⟩
  ·exact .inl h
  ·exact .inr (.inl h)
  ·exact .inr (.inr (.inl h))
  ·exact .inr (.inr (.inr (.inl h)))
  ·exact .inr (.inr (.inr (.inr ⟨hk,es,ts,ht,hl,hrow.kept hg hr,fun i x u h1 h2=>Rep.kept hg hr (hall i x u h1 h2)⟩)))
theorem Rep.turn {lo lo':Nat} {own own':Nat→Prop} {w:World} (hlo:lo'≤lo) (ho:∀g,own' g→own g∨w.heap.size≤g∨g<lo):
  ∀{m:Nat} {e:El} {t:Dt},Rep lo own w m e t→Rep lo' own' w m e t
 |0,_,_,h=>False.elim h
 |m+1,e,t,h=>by
  rcases h with h|h|h|h|⟨hk,es,ts,ht,hl,hrow,hall⟩
  ·exact .inl h
  ·exact .inr (.inl h)
  ·exact .inr (.inr (.inl h))
  ·exact .inr (.inr (.inr (.inl h)))
  ·refine .inr (.inr (.inr (.inr ⟨hk,es,ts,ht,hl,⟨hrow.len,qdj hrow.owns hlo,fun g hg hv=>?_⟩,fun i x u h1 h2=>Rep.turn hlo ho (hall i x u h1 h2)⟩)))
   have h1:=hrow.owns.lt g hv
   rcases ho g hg with h2|h2|h2
   ·exact hrow.far g h2 hv
   ·omega
   ·omega
def Res (b:Nat) (s:ByteArray) (d:Nat) (r:Py.R) (w:World) (e:Ending) (w':World):Prop:=
 Only b w w'∧
 match r with
 | .inl (c,k)=>∃N,e=.returned (.tuple #[El.nil.v,.pointer (some ⟨N,0,none⟩)])∧w.heap.size≤N∧w'.heap[N]? =some (.cells #[.int .i64 (c:Int),.int .i64 ((s.size-k:Nat):Int)] 126 (0,0))∧∃p',Rd b s p' d w'
 | .inr (ts,r)=>∃(x:El) (t:Dt),ts=[t]∧e=.returned (.tuple #[x.v,.pointer none])∧Rep w.heap.size NoB w' (32-d) x t∧Rd b s (s.size-r.length) d w'
abbrev put6 (w:World) (g:Nat) (v0 v1 v2 v3 v4 v5:Value):World:=(((((w.setCell ⟨g,0,none⟩ v0).setCell ⟨g,1,none⟩ v1).setCell ⟨g,2,none⟩ v2).setCell ⟨g,3,none⟩ v3).setCell ⟨g,4,none⟩ v4).setCell ⟨g,5,none⟩ v5
theorem qbo (w:World) (g:Nat) (v0 v1 v2 v3 v4 v5:Value):w.grownBy (put6 w g v0 v1 v2 v3 v4 v5) (some g):=
 ((((((Only.refl g w).set 0 v0).set 1 v1).set 2 v2).set 3 v3).set 4 v4).set 5 v5
theorem Only.new {b g:Nat} {w w' w2:World} (h:Only b w w') (hg:w'.grownBy w2 (some g)) (hn:w.heap.size≤g):Only b w w2:=
 ⟨hg.os.trans h.os,hg.tape.trans h.tape,hg.output.trans h.output,Nat.le_trans h.size hg.size,fun i hi hne=>(hg.block i (Nat.lt_of_lt_of_le hi h.size) (by intro e;cases e;omega)).trans (h.block i hi hne)⟩
theorem Only.of {b:Nat} {w w1 w2:World} (h:Only b w w1) (k:Below w1.heap.size w1 w2):Only b w w2:=
 ⟨k.os.trans h.os,k.tape.trans h.tape,k.output.trans h.output,Nat.le_trans h.size k.size,fun i hi hn=>(k.block i (Nat.lt_of_lt_of_le hi h.size)).trans (h.block i hi hn)⟩
theorem Rd.kept {b:Nat} {s:ByteArray} {p d:Nat} {w w':World} {row:Option Nat} (h:Rd b s p d w) (hg:w.grownBy w' row) (hne:some b≠row):Rd b s p d w':=by
 have:=h.lt
 unfold Rd at*;rw [hg.block b this hne];exact h
theorem Rd.below {b:Nat} {s:ByteArray} {p d B:Nat} {w w':World} (h:Rd b s p d w) (hg:Below B w w') (hb:b<B):Rd b s p d w':=by
 unfold Rd at*;rw [hg.block b hb];exact h
theorem Box.below {g B:Nat} {w w':World} (h:Box g w) (hb:Below B w w') (hg:g<B):Box g w':=by
 have e:∀o,w'.cell? ⟨g,o,none⟩=w.cell? ⟨g,o,none⟩:=fun o=>hb.cell (p:=⟨g,o,none⟩) hg
 have f:∀o,w'.frozen? ⟨g,o,none⟩=w.frozen? ⟨g,o,none⟩:=fun o=>hb.frozen (p:=⟨g,o,none⟩) hg
 obtain⟨c0,c1,c2,c3,c4,c5,fz⟩:=h
 exact⟨by rw [e];exact c0,by rw [e];exact c1,by rw [e];exact c2,by rw [e];exact c3,by rw [e];exact c4,by rw [e];exact c5,fun o=>by rw [f];exact fz o⟩
theorem Box.new (w:World) (v0 v1 v2 v3 v4 v5:Value):Box w.heap.size (w.alloc (.cells #[v0,v1,v2,v3,v4,v5] 134 (0,0))):=Box.of (heap_alloc_new w _)
theorem Box.set {g b o:Nat} {w:World} (h:Box g w) (hne:g≠b) (v:Value):Box g (w.setCell ⟨b,o,none⟩ v):=by
 have hh:=Below.heap_setCell w ⟨b,o,none⟩ v g hne
 have e:∀o',(w.setCell ⟨b,o,none⟩ v).cell? ⟨g,o',none⟩=w.cell? ⟨g,o',none⟩:=fun o'=>World.cell?_of_block (w:=w) hh
 have f:∀o',(w.setCell ⟨b,o,none⟩ v).frozen? ⟨g,o',none⟩=w.frozen? ⟨g,o',none⟩:=fun o'=>World.frozen?_of_block (w:=w) hh
 obtain⟨c0,c1,c2,c3,c4,c5,fz⟩:=h
 exact⟨by rw [e];exact c0,by rw [e];exact c1,by rw [e];exact c2,by rw [e];exact c3,by rw [e];exact c4,by rw [e];exact c5,fun o=>by rw [f];exact fz o⟩
theorem Box.drewN {g:Nat} {w:World} (h:Box g w) (n:Nat):Box g (w.drewN n):=⟨h.c0,h.c1,h.c2,h.c3,h.c4,h.c5,h.fz⟩
theorem Box.new1 (w:World) (a:Addr) (u v0 v1 v2 v3 v4 v5:Value):Box w.heap.size ((w.setCell a u).alloc (.cells #[v0,v1,v2,v3,v4,v5] 134 (0,0))):=by
 have:=Box.new (w.setCell a u) v0 v1 v2 v3 v4 v5
 rwa [show(w.setCell a u).heap.size=w.heap.size from by simp]at this
theorem Box.kept {g:Nat} {w w':World} {row:Option Nat} (h:Box g w) (hg:w.grownBy w' row) (hne:some g≠row) (hlt:g<w.heap.size):Box g w':=by
 have hh:=hg.block g hlt hne
 have e:∀o',w'.cell? ⟨g,o',none⟩=w.cell? ⟨g,o',none⟩:=fun o'=>World.cell?_of_block (w:=w) hh
 have f:∀o',w'.frozen? ⟨g,o',none⟩=w.frozen? ⟨g,o',none⟩:=fun o'=>World.frozen?_of_block (w:=w) hh
 obtain⟨c0,c1,c2,c3,c4,c5,fz⟩:=h
 exact⟨by rw [e];exact c0,by rw [e];exact c1,by rw [e];exact c2,by rw [e];exact c3,by rw [e];exact c4,by rw [e];exact c5,fun o=>by rw [f];exact fz o⟩
theorem Box.new2 (w:World) (a a':Addr) (u u' v0 v1 v2 v3 v4 v5:Value):Box w.heap.size (((w.setCell a u).setCell a' u').alloc (.cells #[v0,v1,v2,v3,v4,v5] 134 (0,0))):=by
 have:=Box.new ((w.setCell a u).setCell a' u') v0 v1 v2 v3 v4 v5
 rwa [show((w.setCell a u).setCell a' u').heap.size=w.heap.size from by simp]at this
theorem Res.err {b:Nat} {s:ByteArray} {d c k N g:Nat} {w w':World} {z pl:Int} (hO:Only b w w') (hg:w.heap.size≤g) (hN0:w.heap.size≤N) (hNg:N≠g)
  (hN:w'.heap[N]? =some (.cells #[.int .i64 z,.int .i64 pl] 126 (0,0))) (hz:z=(c:Int)) (hpl:pl=((s.size-k:Nat):Int)) {p':Nat} (hd:Rd b s p' d w') (hb:b<w.heap.size) (v0 v1 v2 v3 v4 v5:Value):
  Res b s d (.inl (c,k)) w (.returned (.tuple #[El.nil.v,.pointer (some ⟨N,0,none⟩)])) (put6 w' g v0 v1 v2 v3 v4 v5):=by
 subst hz;subst hpl
 exact⟨hO.new (qbo _ _ _ _ _ _ _ _) hg,N,rfl,hN0,by rw [qo6 _ _ _ hNg];exact hN,p',hd.kept (qbo _ _ _ _ _ _ _ _) (by intro e;cases e;omega)⟩
theorem Res.ok {b:Nat} {s:ByteArray} {d p g lo:Nat} {w w':World} {x:El} {t:Dt} {r:List UInt8} (hO:Only b w w') (hg:w.heap.size≤g) (hlo:g<lo) (hb:b<w.heap.size)
  (hR:Rep lo NoB w' (32-d) x t) (hd:Rd b s p d w') (hp:p=s.size-r.length) (v0 v1 v2 v3 v4 v5:Value):
  Res b s d (.inr ([t],r)) w (.returned (.tuple #[x.v,.pointer none])) (put6 w' g v0 v1 v2 v3 v4 v5):=by
 subst hp
 refine⟨hO.new (qbo _ _ _ _ _ _ _ _) hg,x,t,rfl,rfl,Rep.turn (lo:=lo) (own:=NoB) (by omega) (fun g h=>by cases h) (Rep.kept (qbo _ _ _ _ _ _ _ _) (fun g' h=>by cases h;exact .inl hlo) hR),hd.kept (qbo _ _ _ _ _ _ _ _) (by intro e;cases e;omega)⟩
theorem Res.alloc {b:Nat} {s:ByteArray} {d:Nat} {r:Py.R} {w w':World} {e:Ending} (h:Res b s d r w e w') (o:Obj):Res b s d r w e (w'.alloc o):=by
 rcases r with⟨c,k⟩|⟨ts,rr⟩
 ·obtain⟨hO,N,he,hN0,hN,p',hR⟩:=h
  exact⟨hO.alloc o,N,he,hN0,by rw [Below.heap_alloc _ _ _ (Array.getElem?_eq_some_iff.1 hN).1];exact hN,p',hR.alloc o⟩
 ·obtain⟨hO,x,t,ht,he,hrep,hR⟩:=h
  exact⟨hO.alloc o,x,t,ht,he,Rep.kept (World.grownBy_alloc w' o none) (fun g h=>by cases h) hrep,hR.alloc o⟩
end Rd
end
section
namespace Rd
open Go.RowKit
theorem qbv (s:ByteArray) (q:Nat) (t:Dt) (h:∀hlt:q<s.size,Px.endB s[q]=true):Py.closed t (L s q)=.inr ([t],L s q):=by
 by_cases hlt:q<s.size
 ·rw [L_lt s q hlt];simp [Py.closed,h hlt]
 ·rw [qgz s q (by omega)];rfl
theorem qch (s:ByteArray) (q:Nat) (t:Dt) (hlt:q<s.size) (h:Px.endB s[q]=false):Py.closed t (L s q)=.inl (2,s.size-q):=by
 rw [L_lt s q hlt];simp [Py.closed,h,qb3];omega
theorem qnh (s:ByteArray) (p:Nat) (h:p+1=s.size):Py.truth (L s (p+1))=.inl (2,s.size-p):=by
 rw [qgz s (p+1) (by omega)];simp [Py.truth];omega
theorem truth_t (s:ByteArray) (p:Nat) (h:p+1<s.size) (hc:((s[p+1].toNat:Int)==116)=true):Py.truth (L s (p+1))=Py.closed (.bool true) (L s (p+2)):=by
 have:=beq_iff_eq.1 hc
 rw [L_lt s (p+1) h,Py.truth,if_pos (by omega)]
theorem truth_f (s:ByteArray) (p:Nat) (h:p+1<s.size) (hn:((s[p+1].toNat:Int)==116)=false) (hc:((s[p+1].toNat:Int)==102)=true):Py.truth (L s (p+1))=Py.closed (.bool false) (L s (p+2)):=by
 have:=beq_iff_eq.1 hc
 have:=beq_eq_false_iff_ne.1 hn
 rw [L_lt s (p+1) h,Py.truth,if_neg (by omega),if_pos (by omega)]
theorem qqq (s:ByteArray) (p:Nat) (h:p+1<s.size) (hn:((s[p+1].toNat:Int)==116)=false) (hc:((s[p+1].toNat:Int)==102)=false):Py.truth (L s (p+1))=.inl (2,s.size-p):=by
 have:=beq_eq_false_iff_ne.1 hc
 have:=beq_eq_false_iff_ne.1 hn
 rw [L_lt s (p+1) h,Py.truth,if_neg (by omega),if_neg (by omega),qb3];congr 2;omega
theorem qni (b:Nat) (s:ByteArray) (p d:Nat) (w:World) (h:Rd b s p d w) (hp:p<s.size) (hs:s.size≤1200) (hd30:d≤30):
  Calls prog 152 #[.pointer (some ⟨b,0,none⟩)] w fun e w'=>Res b s d (Py.truth (L s (p+1))) w e w':=by
 have h1:=h.c1
 have hf:=h.fz 1
 have hb:=h.lt
 have HR:Hid (Rd b s p d w):=h
 clear h
 by_cases hlt:p+1<s.size
 ·cases ct:((s[p+1].toNat:Int)==116)
  ·cases cf:((s[p+1].toNat:Int)==102)
   ·have HT:Hid (Py.truth (L s (p+1))=.inl (2,s.size-p)):=qqq s p hlt ct cf
    go_enter func152,ntmps152
    go_wp2_with (first|(go_at_call 237;refine(qbj b s (p+1) d _ _ (by first|exact(HR.out.set1 (p+1) _ (by omega)).alloc _|exact((HR.out.set1 (p+1) _ (by omega)).alloc _).drewN _) hlt).mono ?_;rintro e w' ⟨rfl,n1,rfl⟩)|(go_at_call 147;refine(qbb _ _ _).mono ?_;rintro e w' ⟨N,rfl,hN,hN2,hbl⟩;refine Hid.out ?_))
    have hsz:w.heap.size+1≤N:=by simpa using hN
    have hO:Only b w w':=Only.of (((Only.refl b w).set _ _).alloc _|>.drewN _) hbl
    have HR9:=hZ ((((HR.out.set1 (p+1) _ (by omega)).alloc _).drewN _).below hbl (by first|omega|(simp;done)|(simp;omega)))
    have hx:Box w.heap.size w':=((Box.new1 w _ _ _ _ _ _ _ _).drewN _).below hbl (by simp)
    obtain⟨⟨y0,k0⟩,⟨y1,k1⟩,⟨y2,k2⟩,⟨y3,k3⟩,⟨y4,k4⟩,⟨y5,k5⟩,kf⟩:=hx
    have HN2:=hZ hN2
    have HO:=hZ hO
    clear hN hN2 hbl hO
    refine hZ ?_
    go_wp2
    refine bodyPost_ret (v:=.tuple #[El.nil.v,.pointer (some ⟨N,0,none⟩)]) (by simp [results,results152,go_sem, *]) rfl ?_
    rw [HT.out]
    exact Res.err HO.out (Nat.le_refl _) (by omega) (by omega) HN2.out rfl (by omega) HR9.out (by omega) _ _ _ _ _ _
   ·have HT:Hid (Py.truth (L s (p+1))=Py.closed (.bool false) (L s (p+2))):=truth_f s p hlt ct cf
    go_enter func152,ntmps152
    go_wp2_with (first|(go_at_call 237;refine(qbj b s (p+1) d _ _ (by first|exact(HR.out.set1 (p+1) _ (by omega)).alloc _|exact((HR.out.set1 (p+1) _ (by omega)).alloc _).drewN _) hlt).mono ?_;rintro e w' ⟨rfl,n1,rfl⟩)|(go_at_call 243;refine(qei _ _).mono ?_;rintro e w1 ⟨rfl,hbl⟩;refine Hid.out ?_))
    have hR1:Rd b s (p+2) d w1:=((((HR.out.set1 (p+1) _ (by omega)).alloc _).drewN _).set1 (p+2) _ (by omega)).below hbl (by simp;omega)
    have hO1:Only b w w1:=Only.of ((((Only.refl b w).set _ _).alloc _|>.drewN _).set _ _) hbl
    have hx1:Box w.heap.size w1:=(((Box.new1 w _ _ _ _ _ _ _ _).drewN _).set (by omega) _).below hbl (by simp)
    have hz1:w.heap.size+1≤w1.heap.size:=by have:=hbl.size;simp at this;omega
    have HR1:=hZ hR1
    have HO1:=hZ hO1
    have HX1:=hZ hx1
    clear hbl hR1 hO1 hx1
    refine hZ ?_
    by_cases hcl:∀hlt:p+2<s.size,Px.endB s[p+2]=true
    ·have HC:Hid (Py.closed (.bool false) (L s (p+2))=.inr ([.bool false],L s (p+2))):=qbv s (p+2) _ hcl
     have HCl:=hZ hcl
     clear hcl
     go_wp2_with (go_at_call 242;refine(qb6 b s (p+2) d ⟨1,0,false,⟨#[]⟩,0,none,0,0⟩ _ HR1.out HCl.out (by omega)).mono ?_;rintro e w2 ⟨rfl,hbl⟩;refine Hid.out ?_)
     have HR2:=hZ (HR1.out.below hbl (by omega))
     have HO2:=hZ (Only.of HO1.out hbl)
     have HR9:=hZ (HR1.out.below hbl (by first|omega|(simp;done)|(simp;omega)))
     obtain⟨⟨y0,k0⟩,⟨y1,k1⟩,⟨y2,k2⟩,⟨y3,k3⟩,⟨y4,k4⟩,⟨y5,k5⟩,kf⟩:=HX1.out.below hbl (by omega)
     clear hbl
     refine hZ ?_
     go_wp2
     refine bodyPost_ret (v:=.tuple #[El.v ⟨1,0,false,⟨#[]⟩,0,none,0,0⟩,.pointer none]) (by simp [results,results152,go_sem, *]) rfl ?_
     rw [HT.out,HC.out]
     exact Res.ok HO2.out (Nat.le_refl _) (Nat.lt_succ_self _) hb (by rw [show 32-d=(31-d)+1 from by omega];exact .inr (.inl ⟨rfl,rfl,rfl,rfl,rfl⟩)) HR2.out (by rw [qb3];omega) _ _ _ _ _ _
    ·have hcl':∃hlt:p+2<s.size,Px.endB s[p+2]=false:=by
      rcases Classical.not_forall.1 hcl with⟨a,ha⟩
      exact⟨a,by simpa using ha⟩
     obtain⟨hl2,he2⟩:=hcl'
     have HC:Hid (Py.closed (.bool false) (L s (p+2))=.inl (2,s.size-(p+2))):=qch s (p+2) _ hl2 he2
     clear hcl
     go_wp2_with (go_at_call 242;refine(qct b s (p+2) d ⟨1,0,false,⟨#[]⟩,0,none,0,0⟩ _ HR1.out hl2 he2).mono ?_;rintro e w2 ⟨N,rfl,hN,hN2,hbl⟩;refine Hid.out ?_)
     have HN2:=hZ hN2
     have HO2:=hZ (Only.of HO1.out hbl)
     have HR9:=hZ (HR1.out.below hbl (by first|omega|(simp;done)|(simp;omega)))
     obtain⟨⟨y0,k0⟩,⟨y1,k1⟩,⟨y2,k2⟩,⟨y3,k3⟩,⟨y4,k4⟩,⟨y5,k5⟩,kf⟩:=HX1.out.below hbl (by omega)
     clear hbl hN2
     refine hZ ?_
     go_wp2
     refine bodyPost_ret (v:=.tuple #[El.nil.v,.pointer (some ⟨N,0,none⟩)]) (by simp [results,results152,go_sem, *]) rfl ?_
     rw [HT.out,HC.out]
     exact Res.err HO2.out (Nat.le_refl _) (by omega) (by omega) HN2.out rfl (by omega) HR9.out (by omega) _ _ _ _ _ _
  ·have HT:Hid (Py.truth (L s (p+1))=Py.closed (.bool true) (L s (p+2))):=truth_t s p hlt ct
   go_enter func152,ntmps152
   go_wp2_with (first|(go_at_call 237;refine(qbj b s (p+1) d _ _ (by first|exact(HR.out.set1 (p+1) _ (by omega)).alloc _|exact((HR.out.set1 (p+1) _ (by omega)).alloc _).drewN _) hlt).mono ?_;rintro e w' ⟨rfl,n1,rfl⟩)|(go_at_call 243;refine(qei _ _).mono ?_;rintro e w1 ⟨rfl,hbl⟩;refine Hid.out ?_))
   have hR1:Rd b s (p+2) d w1:=((((HR.out.set1 (p+1) _ (by omega)).alloc _).drewN _).set1 (p+2) _ (by omega)).below hbl (by simp;omega)
   have hO1:Only b w w1:=Only.of ((((Only.refl b w).set _ _).alloc _|>.drewN _).set _ _) hbl
   have hx1:Box w.heap.size w1:=(((Box.new1 w _ _ _ _ _ _ _ _).drewN _).set (by omega) _).below hbl (by simp)
   have hz1:w.heap.size+1≤w1.heap.size:=by have:=hbl.size;simp at this;omega
   have HR1:=hZ hR1
   have HO1:=hZ hO1
   have HX1:=hZ hx1
   clear hbl hR1 hO1 hx1
   refine hZ ?_
   by_cases hcl:∀hlt:p+2<s.size,Px.endB s[p+2]=true
   ·have HC:Hid (Py.closed (.bool true) (L s (p+2))=.inr ([.bool true],L s (p+2))):=qbv s (p+2) _ hcl
    have HCl:=hZ hcl
    clear hcl
    go_wp2_with (go_at_call 242;refine(qb6 b s (p+2) d ⟨1,0,true,⟨#[]⟩,0,none,0,0⟩ _ HR1.out HCl.out (by omega)).mono ?_;rintro e w2 ⟨rfl,hbl⟩;refine Hid.out ?_)
    have HR2:=hZ (HR1.out.below hbl (by omega))
    have HO2:=hZ (Only.of HO1.out hbl)
    have HR9:=hZ (HR1.out.below hbl (by first|omega|(simp;done)|(simp;omega)))
    obtain⟨⟨y0,k0⟩,⟨y1,k1⟩,⟨y2,k2⟩,⟨y3,k3⟩,⟨y4,k4⟩,⟨y5,k5⟩,kf⟩:=HX1.out.below hbl (by omega)
    clear hbl
    refine hZ ?_
    go_wp2
    refine bodyPost_ret (v:=.tuple #[El.v ⟨1,0,true,⟨#[]⟩,0,none,0,0⟩,.pointer none]) (by simp [results,results152,go_sem, *]) rfl ?_
    rw [HT.out,HC.out]
    exact Res.ok HO2.out (Nat.le_refl _) (Nat.lt_succ_self _) hb (by rw [show 32-d=(31-d)+1 from by omega];exact .inr (.inl ⟨rfl,rfl,rfl,rfl,rfl⟩)) HR2.out (by rw [qb3];omega) _ _ _ _ _ _
   ·have hcl':∃hlt:p+2<s.size,Px.endB s[p+2]=false:=by
     rcases Classical.not_forall.1 hcl with⟨a,ha⟩
     exact⟨a,by simpa using ha⟩
    obtain⟨hl2,he2⟩:=hcl'
    have HC:Hid (Py.closed (.bool true) (L s (p+2))=.inl (2,s.size-(p+2))):=qch s (p+2) _ hl2 he2
    clear hcl
    go_wp2_with (go_at_call 242;refine(qct b s (p+2) d ⟨1,0,true,⟨#[]⟩,0,none,0,0⟩ _ HR1.out hl2 he2).mono ?_;rintro e w2 ⟨N,rfl,hN,hN2,hbl⟩;refine Hid.out ?_)
    have HN2:=hZ hN2
    have HO2:=hZ (Only.of HO1.out hbl)
    have HR9:=hZ (HR1.out.below hbl (by first|omega|(simp;done)|(simp;omega)))
    obtain⟨⟨y0,k0⟩,⟨y1,k1⟩,⟨y2,k2⟩,⟨y3,k3⟩,⟨y4,k4⟩,⟨y5,k5⟩,kf⟩:=HX1.out.below hbl (by omega)
    clear hbl hN2
    refine hZ ?_
    go_wp2
    refine bodyPost_ret (v:=.tuple #[El.nil.v,.pointer (some ⟨N,0,none⟩)]) (by simp [results,results152,go_sem, *]) rfl ?_
    rw [HT.out,HC.out]
    exact Res.err HO2.out (Nat.le_refl _) (by omega) (by omega) HN2.out rfl (by omega) HR9.out (by omega) _ _ _ _ _ _
 ·have HT:Hid (Py.truth (L s (p+1))=.inl (2,s.size-p)):=qnh s p (by omega)
  go_enter func152,ntmps152
  go_wp2_with (first|(go_at_call 237;refine(qfg b s (p+1) d _ _ (by first|exact(HR.out.set1 (p+1) _ (by omega)).alloc _|exact((HR.out.set1 (p+1) _ (by omega)).alloc _).drewN _) (by omega)).mono ?_;rintro e w' ⟨rfl,n1,rfl⟩)|(go_at_call 147;refine(qbb _ _ _).mono ?_;rintro e w' ⟨N,rfl,hN,hN2,hbl⟩;refine Hid.out ?_))
  have hsz:w.heap.size+1≤N:=by simpa using hN
  have hO:Only b w w':=Only.of (((Only.refl b w).set _ _).alloc _|>.drewN _) hbl
  have HR9:=hZ ((((HR.out.set1 (p+1) _ (by omega)).alloc _).drewN _).below hbl (by first|omega|(simp;done)|(simp;omega)))
  have hx:Box w.heap.size w':=((Box.new1 w _ _ _ _ _ _ _ _).drewN _).below hbl (by simp)
  obtain⟨⟨y0,k0⟩,⟨y1,k1⟩,⟨y2,k2⟩,⟨y3,k3⟩,⟨y4,k4⟩,⟨y5,k5⟩,kf⟩:=hx
  have HN2:=hZ hN2
  have HO:=hZ hO
  clear hN hN2 hbl hO
  refine hZ ?_
  go_wp2
  refine bodyPost_ret (v:=.tuple #[El.nil.v,.pointer (some ⟨N,0,none⟩)]) (by simp [results,results152,go_sem, *]) rfl ?_
  rw [HT.out]
  exact Res.err HO.out (Nat.le_refl _) (by omega) (by omega) HN2.out rfl (by omega) HR9.out (by omega) _ _ _ _ _ _
end Rd
end
end Go.Proofs.YtldaocpojcfljaaGreatDoor
