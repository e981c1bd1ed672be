import Derived.Test.YtldaocpojcfljaaGreatDoorC15
import Derived.LaidEql
set_option maxRecDepth 100000
set_option maxHeartbeats 4000000
namespace Go.Proofs.YtldaocpojcfljaaGreatDoor
open Tryz hiding parts
open Go.RowKit Go.Shelf
section
theorem qte (b:Nat) (w:World):Calls prog 272 #[.iface 246 (.pointer (some ⟨b,0,none⟩))] w fun e w'=>e=.returned (.pointer (some ⟨b,0,none⟩))∧w'=w:=by
 have ha:∀w,(Instr.typeAssert (.iface 246 (.pointer (some ⟨b,0,none⟩))) 116 246 true).run prog w=.ok (.tuple #[.pointer (some ⟨b,0,none⟩),.bool true]) w:=fun w=>qgj _ w
 go_enter func272,ntmps272
 go_wp2
 go_ret
 exact⟨rfl,rfl⟩
theorem qqc (t:Nat) (y:Value) (w:World) (ht:t≠246):Calls prog 272 #[.iface t y] w fun e w'=>e=.panicked (stopP (stopV 6))∧∃o,w'=w.alloc o:=by
 have ha:∀w,(Instr.typeAssert (.iface t y) 116 246 true).run prog w=.ok (.tuple #[.pointer none,.bool false]) w:=fun w=>qcd _ _ ht w
 clear ht
 go_enter func272,ntmps272
 go_wp2_with (go_at_call 131;refine(qc6 _ _).mono ?_;rintro e w2 ⟨rfl,o,rfl⟩)
 exact⟨rfl,rfl,o,rfl⟩
theorem qd6 (s:ByteArray) (w:World):Calls prog 275 #[.iface 182 (.string s)] w fun e w'=>e=.returned (.string s)∧w'=w:=by
 have ha:∀w,(Instr.typeAssert (.iface 182 (.string s)) 116 182 true).run prog w=.ok (.tuple #[.string s,.bool true]) w:=fun w=>is182 _ w
 go_enter func275,ntmps275
 go_wp2
 go_ret
 exact⟨rfl,rfl⟩
theorem qe4 (t:Nat) (y:Value) (w:World) (ht:t≠182):Calls prog 275 #[.iface t y] w fun e w'=>e=.panicked (stopP (stopV 6))∧∃o,w'=w.alloc o:=by
 have ha:∀w,(Instr.typeAssert (.iface t y) 116 182 true).run prog w=.ok (.tuple #[.string ⟨#[]⟩,.bool false]) w:=fun w=>qce _ _ ht w
 clear ht
 go_enter func275,ntmps275
 go_wp2_with (go_at_call 131;refine(qc6 _ _).mono ?_;rintro e w2 ⟨rfl,o,rfl⟩)
 exact⟨rfl,rfl,o,rfl⟩
theorem qtd (s:ByteArray) (w:World):Calls prog 279 #[.iface 183 (.string s)] w fun e w'=>e=.returned (.string s)∧w'=w:=by
 have ha:∀w,(Instr.typeAssert (.iface 183 (.string s)) 116 183 true).run prog w=.ok (.tuple #[.string s,.bool true]) w:=fun w=>is183 _ w
 go_enter func279,ntmps279
 go_wp2
 go_ret
 exact⟨rfl,rfl⟩
theorem qqb (t:Nat) (y:Value) (w:World) (ht:t≠183):Calls prog 279 #[.iface t y] w fun e w'=>e=.panicked (stopP (stopV 6))∧∃o,w'=w.alloc o:=by
 have ha:∀w,(Instr.typeAssert (.iface t y) 116 183 true).run prog w=.ok (.tuple #[.string ⟨#[]⟩,.bool false]) w:=fun w=>qcl _ _ ht w
 clear ht
 go_enter func279,ntmps279
 go_wp2_with (go_at_call 131;refine(qc6 _ _).mono ?_;rintro e w2 ⟨rfl,o,rfl⟩)
 exact⟨rfl,rfl,o,rfl⟩
theorem qb0 (b:Nat) (w:World):Calls prog 281 #[.iface 281 (.pointer (some ⟨b,0,none⟩))] w fun e w'=>e=.returned (.pointer (some ⟨b,0,none⟩))∧w'=w:=by
 have ha:∀w,(Instr.typeAssert (.iface 281 (.pointer (some ⟨b,0,none⟩))) 116 281 true).run prog w=.ok (.tuple #[.pointer (some ⟨b,0,none⟩),.bool true]) w:=fun w=>qsd _ w
 go_enter func281,ntmps281
 go_wp2
 go_ret
 exact⟨rfl,rfl⟩
theorem qcq (t:Nat) (y:Value) (w:World) (ht:t≠281):Calls prog 281 #[.iface t y] w fun e w'=>e=.panicked (stopP (stopV 6))∧∃o,w'=w.alloc o:=by
 have ha:∀w,(Instr.typeAssert (.iface t y) 116 281 true).run prog w=.ok (.tuple #[.pointer none,.bool false]) w:=fun w=>qcz _ _ ht w
 clear ht
 go_enter func281,ntmps281
 go_wp2_with (go_at_call 131;refine(qc6 _ _).mono ?_;rintro e w2 ⟨rfl,o,rfl⟩)
 exact⟨rfl,rfl,o,rfl⟩
theorem qoj (g o cap q kw ku:Nat) (b:Nat) (cw cu:Array Value) (w:World) (Q:Ending→World→Prop)
  (ew:∀args w,(callFunc kw args).run prog w=.ok (.enter kw args) w) (eg:∀args w,(callFunc ku args).run prog w=.ok (.enter ku args) w)
  (hQ:∀e w,Q e w→(∃v,e=.returned v)∨(∃ps,e=.panicked ps))
  (hS:∀v w',Q (.returned v) w'→w'.cell? ⟨g,o,none⟩=some (.iface 246 (.pointer (some ⟨b,0,none⟩)))∧w'.cell? ⟨q,0,none⟩=some (.func (.func kw) #[] cw))
  (h0:w.cell? ⟨g,o,none⟩=some (.iface 246 (.pointer (some ⟨b,0,none⟩)))) (hq:w.cell? ⟨q,0,none⟩=some (.func (.func kw) #[] cw))
  (hW:∀w',Lk w w'→Calls prog kw (#[.pointer (some ⟨b,0,none⟩)]++cw) w' fun e w1=>(∃t' y',e=.returned (.iface t' y')∧(w1.cell? ⟨g,o,none⟩=some (.iface 246 (.pointer (some ⟨b,0,none⟩)))∧w1.cell? ⟨q,0,none⟩=some (.func (.func kw) #[] cw))∧∀w2,Lk w1 w2→Calls prog ku (#[.iface t' y']++cu) w2 Q)∨((∃ps,e=.panicked ps)∧Q e w1)):
  Calls prog 271 #[.slice (some ⟨g,o,none⟩) 1 cap,.func (.func ku) #[] cu,.pointer (some ⟨q,0,none⟩)] w Q:=by
 have HW:=hZ hW
 have HQ:=hZ hQ
 have HS:=hZ hS
 have HM:=hZ (qao (some ⟨g,o,none⟩) 1 cap w (by omega))
 have HA:=hZ (fun w=>qte b w)
 clear hW hQ hS
 go_enter func271,ntmps271
 go_wp2_with (go_at_call 258;refine HM.out.mono ?_;rintro e w2 ⟨rfl,hww⟩;obtain rfl:=hww.symm)
 go_region_held2 (fun w'=>w'.cell? ⟨g,o,none⟩=some (.iface 246 (.pointer (some ⟨b,0,none⟩)))∧w'.cell? ⟨q,0,none⟩=some (.func (.func kw) #[] cw)) (first|(exact HS.out _ _ hq)|(exact HC.out.1)|go_keep)
  (first|(go_at_call 272;refine(HA.out _).mono ?_;rintro e w2 ⟨rfl,hww⟩;obtain rfl:=hww.symm)|(go_at_fn kw;refine(HW.out _ (by exact⟨rfl,rfl,rfl,rfl⟩)).mono ?_;rintro e w1 (⟨t',y',rfl,hc⟩|⟨⟨ps,rfl⟩,hq⟩);rotate_left;(exact⟨rfl,hq⟩);have HC:=hZ hc;clear hc)|(go_at_fn ku;refine(HC.out.2 _ (by exact⟨rfl,rfl,rfl,rfl⟩)).mono ?_;intro e w3 hq;rcases HQ.out _ _ hq with⟨v,rfl⟩|⟨ps,rfl⟩;rotate_left;(exact⟨rfl,hq⟩)))
 all_goals(go_wp2;exact hq)
theorem ql2 (a:Option Addr) (n cap q:Nat) (ku:Nat) (cu:Array Value) (w:World) (hn:n≤1000000) (hne:n≠1):
  Calls prog 271 #[.slice a n cap,.func (.func ku) #[] cu,.pointer (some ⟨q,0,none⟩)] w fun e w'=>e=.panicked (stopP (stopV 7))∧∃o,w'=w.alloc o:=by
 have HM:=hZ (qa4 a n 1 cap w hn hne)
 go_enter func271,ntmps271
 go_wp2_with (go_at_call 258;refine HM.out.mono ?_;rintro e w2 ⟨rfl,o,rfl⟩)
 exact⟨rfl,rfl,o,rfl⟩
theorem qoi (g o cap q kw ku:Nat) (s:ByteArray) (cw cu:Array Value) (w:World) (Q:Ending→World→Prop)
  (ew:∀args w,(callFunc kw args).run prog w=.ok (.enter kw args) w) (eg:∀args w,(callFunc ku args).run prog w=.ok (.enter ku args) w)
  (hQ:∀e w,Q e w→(∃v,e=.returned v)∨(∃ps,e=.panicked ps))
  (hS:∀v w',Q (.returned v) w'→w'.cell? ⟨g,o,none⟩=some (.iface 182 (.string s))∧w'.cell? ⟨q,0,none⟩=some (.func (.func kw) #[] cw))
  (h0:w.cell? ⟨g,o,none⟩=some (.iface 182 (.string s))) (hq:w.cell? ⟨q,0,none⟩=some (.func (.func kw) #[] cw))
  (hW:∀w',Lk w w'→Calls prog kw (#[.string s]++cw) w' fun e w1=>(∃t' y',e=.returned (.iface t' y')∧(w1.cell? ⟨g,o,none⟩=some (.iface 182 (.string s))∧w1.cell? ⟨q,0,none⟩=some (.func (.func kw) #[] cw))∧∀w2,Lk w1 w2→Calls prog ku (#[.iface t' y']++cu) w2 Q)∨((∃ps,e=.panicked ps)∧Q e w1)):
  Calls prog 276 #[.slice (some ⟨g,o,none⟩) 1 cap,.func (.func ku) #[] cu,.pointer (some ⟨q,0,none⟩)] w Q:=by
 have HW:=hZ hW
 have HQ:=hZ hQ
 have HS:=hZ hS
 have HM:=hZ (qao (some ⟨g,o,none⟩) 1 cap w (by omega))
 have HA:=hZ (fun w=>qd6 s w)
 clear hW hQ hS
 go_enter func276,ntmps276
 go_wp2_with (go_at_call 258;refine HM.out.mono ?_;rintro e w2 ⟨rfl,hww⟩;obtain rfl:=hww.symm)
 go_region_held2 (fun w'=>w'.cell? ⟨g,o,none⟩=some (.iface 182 (.string s))∧w'.cell? ⟨q,0,none⟩=some (.func (.func kw) #[] cw)) (first|(exact HS.out _ _ hq)|(exact HC.out.1)|go_keep)
  (first|(go_at_call 275;refine(HA.out _).mono ?_;rintro e w2 ⟨rfl,hww⟩;obtain rfl:=hww.symm)|(go_at_fn kw;refine(HW.out _ (by exact⟨rfl,rfl,rfl,rfl⟩)).mono ?_;rintro e w1 (⟨t',y',rfl,hc⟩|⟨⟨ps,rfl⟩,hq⟩);rotate_left;(exact⟨rfl,hq⟩);have HC:=hZ hc;clear hc)|(go_at_fn ku;refine(HC.out.2 _ (by exact⟨rfl,rfl,rfl,rfl⟩)).mono ?_;intro e w3 hq;rcases HQ.out _ _ hq with⟨v,rfl⟩|⟨ps,rfl⟩;rotate_left;(exact⟨rfl,hq⟩)))
 all_goals(go_wp2;exact hq)
theorem ql0 (a:Option Addr) (n cap q:Nat) (ku:Nat) (cu:Array Value) (w:World) (hn:n≤1000000) (hne:n≠1):
  Calls prog 276 #[.slice a n cap,.func (.func ku) #[] cu,.pointer (some ⟨q,0,none⟩)] w fun e w'=>e=.panicked (stopP (stopV 7))∧∃o,w'=w.alloc o:=by
 have HM:=hZ (qa4 a n 1 cap w hn hne)
 go_enter func276,ntmps276
 go_wp2_with (go_at_call 258;refine HM.out.mono ?_;rintro e w2 ⟨rfl,o,rfl⟩)
 exact⟨rfl,rfl,o,rfl⟩
theorem qoh (g o cap q kw ku:Nat) (a:Int) (cw cu:Array Value) (w:World) (Q:Ending→World→Prop)
  (ew:∀args w,(callFunc kw args).run prog w=.ok (.enter kw args) w) (eg:∀args w,(callFunc ku args).run prog w=.ok (.enter ku args) w)
  (hQ:∀e w,Q e w→(∃v,e=.returned v)∨(∃ps,e=.panicked ps))
  (hS:∀v w',Q (.returned v) w'→w'.cell? ⟨g,o,none⟩=some (.iface 180 (.int .i64 a))∧w'.cell? ⟨q,0,none⟩=some (.func (.func kw) #[] cw))
  (h0:w.cell? ⟨g,o,none⟩=some (.iface 180 (.int .i64 a))) (hq:w.cell? ⟨q,0,none⟩=some (.func (.func kw) #[] cw))
  (hW:∀w',Lk w w'→Calls prog kw (#[.int .i64 a]++cw) w' fun e w1=>(∃t' y',e=.returned (.iface t' y')∧(w1.cell? ⟨g,o,none⟩=some (.iface 180 (.int .i64 a))∧w1.cell? ⟨q,0,none⟩=some (.func (.func kw) #[] cw))∧∀w2,Lk w1 w2→Calls prog ku (#[.iface t' y']++cu) w2 Q)∨((∃ps,e=.panicked ps)∧Q e w1)):
  Calls prog 277 #[.slice (some ⟨g,o,none⟩) 1 cap,.func (.func ku) #[] cu,.pointer (some ⟨q,0,none⟩)] w Q:=by
 have HW:=hZ hW
 have HQ:=hZ hQ
 have HS:=hZ hS
 have HM:=hZ (qao (some ⟨g,o,none⟩) 1 cap w (by omega))
 have HA:=hZ (fun w=>qd5 a w)
 clear hW hQ hS
 go_enter func277,ntmps277
 go_wp2_with (go_at_call 258;refine HM.out.mono ?_;rintro e w2 ⟨rfl,hww⟩;obtain rfl:=hww.symm)
 go_region_held2 (fun w'=>w'.cell? ⟨g,o,none⟩=some (.iface 180 (.int .i64 a))∧w'.cell? ⟨q,0,none⟩=some (.func (.func kw) #[] cw)) (first|(exact HS.out _ _ hq)|(exact HC.out.1)|go_keep)
  (first|(go_at_call 259;refine(HA.out _).mono ?_;rintro e w2 ⟨rfl,hww⟩;obtain rfl:=hww.symm)|(go_at_fn kw;refine(HW.out _ (by exact⟨rfl,rfl,rfl,rfl⟩)).mono ?_;rintro e w1 (⟨t',y',rfl,hc⟩|⟨⟨ps,rfl⟩,hq⟩);rotate_left;(exact⟨rfl,hq⟩);have HC:=hZ hc;clear hc)|(go_at_fn ku;refine(HC.out.2 _ (by exact⟨rfl,rfl,rfl,rfl⟩)).mono ?_;intro e w3 hq;rcases HQ.out _ _ hq with⟨v,rfl⟩|⟨ps,rfl⟩;rotate_left;(exact⟨rfl,hq⟩)))
 all_goals(go_wp2;exact hq)
theorem qly (a:Option Addr) (n cap q:Nat) (ku:Nat) (cu:Array Value) (w:World) (hn:n≤1000000) (hne:n≠1):
  Calls prog 277 #[.slice a n cap,.func (.func ku) #[] cu,.pointer (some ⟨q,0,none⟩)] w fun e w'=>e=.panicked (stopP (stopV 7))∧∃o,w'=w.alloc o:=by
 have HM:=hZ (qa4 a n 1 cap w hn hne)
 go_enter func277,ntmps277
 go_wp2_with (go_at_call 258;refine HM.out.mono ?_;rintro e w2 ⟨rfl,o,rfl⟩)
 exact⟨rfl,rfl,o,rfl⟩
theorem qog (g o cap q kw ku:Nat) (s:ByteArray) (cw cu:Array Value) (w:World) (Q:Ending→World→Prop)
  (ew:∀args w,(callFunc kw args).run prog w=.ok (.enter kw args) w) (eg:∀args w,(callFunc ku args).run prog w=.ok (.enter ku args) w)
  (hQ:∀e w,Q e w→(∃v,e=.returned v)∨(∃ps,e=.panicked ps))
  (hS:∀v w',Q (.returned v) w'→w'.cell? ⟨g,o,none⟩=some (.iface 183 (.string s))∧w'.cell? ⟨q,0,none⟩=some (.func (.func kw) #[] cw))
  (h0:w.cell? ⟨g,o,none⟩=some (.iface 183 (.string s))) (hq:w.cell? ⟨q,0,none⟩=some (.func (.func kw) #[] cw))
  (hW:∀w',Lk w w'→Calls prog kw (#[.string s]++cw) w' fun e w1=>(∃t' y',e=.returned (.iface t' y')∧(w1.cell? ⟨g,o,none⟩=some (.iface 183 (.string s))∧w1.cell? ⟨q,0,none⟩=some (.func (.func kw) #[] cw))∧∀w2,Lk w1 w2→Calls prog ku (#[.iface t' y']++cu) w2 Q)∨((∃ps,e=.panicked ps)∧Q e w1)):
  Calls prog 278 #[.slice (some ⟨g,o,none⟩) 1 cap,.func (.func ku) #[] cu,.pointer (some ⟨q,0,none⟩)] w Q:=by
 have HW:=hZ hW
 have HQ:=hZ hQ
 have HS:=hZ hS
 have HM:=hZ (qao (some ⟨g,o,none⟩) 1 cap w (by omega))
 have HA:=hZ (fun w=>qtd s w)
 clear hW hQ hS
 go_enter func278,ntmps278
 go_wp2_with (go_at_call 258;refine HM.out.mono ?_;rintro e w2 ⟨rfl,hww⟩;obtain rfl:=hww.symm)
 go_region_held2 (fun w'=>w'.cell? ⟨g,o,none⟩=some (.iface 183 (.string s))∧w'.cell? ⟨q,0,none⟩=some (.func (.func kw) #[] cw)) (first|(exact HS.out _ _ hq)|(exact HC.out.1)|go_keep)
  (first|(go_at_call 279;refine(HA.out _).mono ?_;rintro e w2 ⟨rfl,hww⟩;obtain rfl:=hww.symm)|(go_at_fn kw;refine(HW.out _ (by exact⟨rfl,rfl,rfl,rfl⟩)).mono ?_;rintro e w1 (⟨t',y',rfl,hc⟩|⟨⟨ps,rfl⟩,hq⟩);rotate_left;(exact⟨rfl,hq⟩);have HC:=hZ hc;clear hc)|(go_at_fn ku;refine(HC.out.2 _ (by exact⟨rfl,rfl,rfl,rfl⟩)).mono ?_;intro e w3 hq;rcases HQ.out _ _ hq with⟨v,rfl⟩|⟨ps,rfl⟩;rotate_left;(exact⟨rfl,hq⟩)))
 all_goals(go_wp2;exact hq)
theorem qlw (a:Option Addr) (n cap q:Nat) (ku:Nat) (cu:Array Value) (w:World) (hn:n≤1000000) (hne:n≠1):
  Calls prog 278 #[.slice a n cap,.func (.func ku) #[] cu,.pointer (some ⟨q,0,none⟩)] w fun e w'=>e=.panicked (stopP (stopV 7))∧∃o,w'=w.alloc o:=by
 have HM:=hZ (qa4 a n 1 cap w hn hne)
 go_enter func278,ntmps278
 go_wp2_with (go_at_call 258;refine HM.out.mono ?_;rintro e w2 ⟨rfl,o,rfl⟩)
 exact⟨rfl,rfl,o,rfl⟩
end
section
theorem ql1 (g o cap q kw ku t:Nat) (y:Value) (cw cu:Array Value) (w:World) (ew:∀args w,(callFunc kw args).run prog w=.ok (.enter kw args) w) (eg:∀args w,(callFunc ku args).run prog w=.ok (.enter ku args) w) (ht:t≠246)
  (h0:w.cell? ⟨g,o,none⟩=some (.iface t y)) (hq:w.cell? ⟨q,0,none⟩=some (.func (.func kw) #[] cw)):
  Calls prog 271 #[.slice (some ⟨g,o,none⟩) 1 cap,.func (.func ku) #[] cu,.pointer (some ⟨q,0,none⟩)] w fun e w'=>e=.panicked (stopP (stopV 6))∧Below w.heap.size w w':=by
 have HM:=hZ (qao (some ⟨g,o,none⟩) 1 cap w (by omega))
 have HA:Hid (∀w,Calls prog 272 #[.iface t y] w fun e w'=>(e=.panicked (stopP (stopV 6))∧∃o,w'=w.alloc o)∨(∃v,e=.returned v∧Hid False)):=fun w=>(qqc t y w ht).mono fun e w h=>.inl h
 clear ht
 go_enter func271,ntmps271
 go_wp2_with (go_at_call 258;refine HM.out.mono ?_;rintro e w2 ⟨rfl,hww⟩;obtain rfl:=hww.symm)
 go_region_held2 (fun w'=>w'.cell? ⟨g,o,none⟩=some (.iface t y)∧w'.cell? ⟨q,0,none⟩=some (.func (.func kw) #[] cw)) (first|(exact hF.out.elim)|go_keep)
  (first|(go_at_call 272;refine(HA.out _).mono ?_;rintro e w2 (⟨rfl,o,rfl⟩|⟨v,rfl,hF⟩);(exact⟨rfl,rfl,(qbq ((Below.refl _ _).alloc (Nat.le_refl _) _) 1)⟩))|(go_at_fn kw;refine Calls.mono (R:=fun e _=>∃t y,e=.returned (.iface t y)) hF.out.elim ?_;rintro e w3 ⟨t3,y3,rfl⟩)|(go_at_fn ku;refine Calls.mono (R:=fun e _=>∃v,e=.returned v) hF.out.elim ?_;rintro e w3 ⟨v3,rfl⟩))
 all_goals exact hF.out.elim
theorem qlz (g o cap q kw ku t:Nat) (y:Value) (cw cu:Array Value) (w:World) (ew:∀args w,(callFunc kw args).run prog w=.ok (.enter kw args) w) (eg:∀args w,(callFunc ku args).run prog w=.ok (.enter ku args) w) (ht:t≠182)
  (h0:w.cell? ⟨g,o,none⟩=some (.iface t y)) (hq:w.cell? ⟨q,0,none⟩=some (.func (.func kw) #[] cw)):
  Calls prog 276 #[.slice (some ⟨g,o,none⟩) 1 cap,.func (.func ku) #[] cu,.pointer (some ⟨q,0,none⟩)] w fun e w'=>e=.panicked (stopP (stopV 6))∧Below w.heap.size w w':=by
 have HM:=hZ (qao (some ⟨g,o,none⟩) 1 cap w (by omega))
 have HA:Hid (∀w,Calls prog 275 #[.iface t y] w fun e w'=>(e=.panicked (stopP (stopV 6))∧∃o,w'=w.alloc o)∨(∃v,e=.returned v∧Hid False)):=fun w=>(qe4 t y w ht).mono fun e w h=>.inl h
 clear ht
 go_enter func276,ntmps276
 go_wp2_with (go_at_call 258;refine HM.out.mono ?_;rintro e w2 ⟨rfl,hww⟩;obtain rfl:=hww.symm)
 go_region_held2 (fun w'=>w'.cell? ⟨g,o,none⟩=some (.iface t y)∧w'.cell? ⟨q,0,none⟩=some (.func (.func kw) #[] cw)) (first|(exact hF.out.elim)|go_keep)
  (first|(go_at_call 275;refine(HA.out _).mono ?_;rintro e w2 (⟨rfl,o,rfl⟩|⟨v,rfl,hF⟩);(exact⟨rfl,rfl,(qbq ((Below.refl _ _).alloc (Nat.le_refl _) _) 1)⟩))|(go_at_fn kw;refine Calls.mono (R:=fun e _=>∃t y,e=.returned (.iface t y)) hF.out.elim ?_;rintro e w3 ⟨t3,y3,rfl⟩)|(go_at_fn ku;refine Calls.mono (R:=fun e _=>∃v,e=.returned v) hF.out.elim ?_;rintro e w3 ⟨v3,rfl⟩))
 all_goals exact hF.out.elim
theorem qlx (g o cap q kw ku t:Nat) (y:Value) (cw cu:Array Value) (w:World) (ew:∀args w,(callFunc kw args).run prog w=.ok (.enter kw args) w) (eg:∀args w,(callFunc ku args).run prog w=.ok (.enter ku args) w) (ht:t≠180)
  (h0:w.cell? ⟨g,o,none⟩=some (.iface t y)) (hq:w.cell? ⟨q,0,none⟩=some (.func (.func kw) #[] cw)):
  Calls prog 277 #[.slice (some ⟨g,o,none⟩) 1 cap,.func (.func ku) #[] cu,.pointer (some ⟨q,0,none⟩)] w fun e w'=>e=.panicked (stopP (stopV 6))∧Below w.heap.size w w':=by
 have HM:=hZ (qao (some ⟨g,o,none⟩) 1 cap w (by omega))
 have HA:Hid (∀w,Calls prog 259 #[.iface t y] w fun e w'=>(e=.panicked (stopP (stopV 6))∧∃o,w'=w.alloc o)∨(∃v,e=.returned v∧Hid False)):=fun w=>(qe3 t y w ht).mono fun e w h=>.inl h
 clear ht
 go_enter func277,ntmps277
 go_wp2_with (go_at_call 258;refine HM.out.mono ?_;rintro e w2 ⟨rfl,hww⟩;obtain rfl:=hww.symm)
 go_region_held2 (fun w'=>w'.cell? ⟨g,o,none⟩=some (.iface t y)∧w'.cell? ⟨q,0,none⟩=some (.func (.func kw) #[] cw)) (first|(exact hF.out.elim)|go_keep)
  (first|(go_at_call 259;refine(HA.out _).mono ?_;rintro e w2 (⟨rfl,o,rfl⟩|⟨v,rfl,hF⟩);(exact⟨rfl,rfl,(qbq ((Below.refl _ _).alloc (Nat.le_refl _) _) 1)⟩))|(go_at_fn kw;refine Calls.mono (R:=fun e _=>∃t y,e=.returned (.iface t y)) hF.out.elim ?_;rintro e w3 ⟨t3,y3,rfl⟩)|(go_at_fn ku;refine Calls.mono (R:=fun e _=>∃v,e=.returned v) hF.out.elim ?_;rintro e w3 ⟨v3,rfl⟩))
 all_goals exact hF.out.elim
theorem qlv (g o cap q kw ku t:Nat) (y:Value) (cw cu:Array Value) (w:World) (ew:∀args w,(callFunc kw args).run prog w=.ok (.enter kw args) w) (eg:∀args w,(callFunc ku args).run prog w=.ok (.enter ku args) w) (ht:t≠183)
  (h0:w.cell? ⟨g,o,none⟩=some (.iface t y)) (hq:w.cell? ⟨q,0,none⟩=some (.func (.func kw) #[] cw)):
  Calls prog 278 #[.slice (some ⟨g,o,none⟩) 1 cap,.func (.func ku) #[] cu,.pointer (some ⟨q,0,none⟩)] w fun e w'=>e=.panicked (stopP (stopV 6))∧Below w.heap.size w w':=by
 have HM:=hZ (qao (some ⟨g,o,none⟩) 1 cap w (by omega))
 have HA:Hid (∀w,Calls prog 279 #[.iface t y] w fun e w'=>(e=.panicked (stopP (stopV 6))∧∃o,w'=w.alloc o)∨(∃v,e=.returned v∧Hid False)):=fun w=>(qqb t y w ht).mono fun e w h=>.inl h
 clear ht
 go_enter func278,ntmps278
 go_wp2_with (go_at_call 258;refine HM.out.mono ?_;rintro e w2 ⟨rfl,hww⟩;obtain rfl:=hww.symm)
 go_region_held2 (fun w'=>w'.cell? ⟨g,o,none⟩=some (.iface t y)∧w'.cell? ⟨q,0,none⟩=some (.func (.func kw) #[] cw)) (first|(exact hF.out.elim)|go_keep)
  (first|(go_at_call 279;refine(HA.out _).mono ?_;rintro e w2 (⟨rfl,o,rfl⟩|⟨v,rfl,hF⟩);(exact⟨rfl,rfl,(qbq ((Below.refl _ _).alloc (Nat.le_refl _) _) 1)⟩))|(go_at_fn kw;refine Calls.mono (R:=fun e _=>∃t y,e=.returned (.iface t y)) hF.out.elim ?_;rintro e w3 ⟨t3,y3,rfl⟩)|(go_at_fn ku;refine Calls.mono (R:=fun e _=>∃v,e=.returned v) hF.out.elim ?_;rintro e w3 ⟨v3,rfl⟩))
 all_goals exact hF.out.elim
theorem qnf (g o cap q kw ku:Nat) (t0 t1:Nat) (y0 y1:Value) (cw cu:Array Value) (w:World) (Q:Ending→World→Prop)
  (ew:∀args w,(callFunc kw args).run prog w=.ok (.enter kw args) w) (eg:∀args w,(callFunc ku args).run prog w=.ok (.enter ku args) w)
  (hQ:∀e w,Q e w→(∃v,e=.returned v)∨(∃ps,e=.panicked ps)) (ht0:VTy t0) (ht1:VTy t1)
  (h0:w.cell? ⟨g,o,none⟩=some (.iface t0 (y0))) (h1:w.cell? ⟨g,o+1,none⟩=some (.iface t1 (y1))) (hq:w.cell? ⟨q,0,none⟩=some (.func (.func kw) #[] cw))
  (hW:∀w',Lk w w'→Calls prog kw (#[.iface t0 y0,.iface t1 y1]++cw) w' fun e w1=>(∃t y,e=.returned (.iface t y)∧∀w2,Lk w1 w2→Calls prog ku (#[.iface t y]++cu) w2 Q)∨((∃ps,e=.panicked ps)∧Q e w1)):
  Calls prog 270 #[.slice (some ⟨g,o,none⟩) 2 cap,.func (.func ku) #[] cu,.pointer (some ⟨q,0,none⟩)] w Q:=by
 have HW:=hZ hW
 have HQ:=hZ hQ
 have HM:=hZ (qao (some ⟨g,o,none⟩) 2 cap w (by omega))
 have HA0:=hZ (fun w=>qqa t0 y0 w ht0)
 have HA1:=hZ (fun w=>qqa t1 y1 w ht1)
 clear ht0 ht1
 clear hW hQ
 go_enter func270,ntmps270
 go_wp2_with (go_at_call 258;refine HM.out.mono ?_;rintro e w2 ⟨rfl,hww⟩;obtain rfl:=hww.symm;refine Hid.out ?_)
 refine hZ ?_
 go_wp2_with (go_at_call 269;refine(HA0.out _).mono ?_;rintro e w2 ⟨rfl,hww⟩;obtain rfl:=hww.symm;refine Hid.out ?_)
 refine hZ ?_
 go_wp2_with (go_at_call 269;refine(HA1.out _).mono ?_;rintro e w2 ⟨rfl,hww⟩;obtain rfl:=hww.symm;refine Hid.out ?_)
 refine hZ ?_
 go_wp2_with (go_at_fn kw;refine(HW.out _ (by exact⟨rfl,rfl,rfl,rfl⟩)).mono ?_;rintro e w1 (⟨t,y,rfl,hk⟩|⟨⟨ps,rfl⟩,hq⟩))
 ·have HK:=hZ hk
  clear hk
  go_wp2_with (go_at_fn ku;refine(HK.out _ (by exact⟨rfl,rfl,rfl,rfl⟩)).mono ?_;intro e w3 hq)
  all_goals first|exact hq|exact⟨rfl,hq⟩|(rcases HQ.out _ _ hq with⟨v,h⟩|⟨ps,h⟩ <;> cases h)
 ·exact⟨rfl,hq⟩
theorem qlc (a:Option Addr) (n cap q:Nat) (ku:Nat) (cu:Array Value) (w:World) (hn:n≤1000000) (hne:n≠2):
  Calls prog 270 #[.slice a n cap,.func (.func ku) #[] cu,.pointer (some ⟨q,0,none⟩)] w fun e w'=>e=.panicked (stopP (stopV 7))∧∃o,w'=w.alloc o:=by
 have HM:=hZ (qa4 a n 2 cap w hn hne)
 go_enter func270,ntmps270
 go_wp2_with (go_at_call 258;refine HM.out.mono ?_;rintro e w2 ⟨rfl,o,rfl⟩)
 exact⟨rfl,rfl,o,rfl⟩
theorem qne (g o cap q kw ku:Nat) (a b:ByteArray) (cw cu:Array Value) (w:World) (Q:Ending→World→Prop)
  (ew:∀args w,(callFunc kw args).run prog w=.ok (.enter kw args) w) (eg:∀args w,(callFunc ku args).run prog w=.ok (.enter ku args) w)
  (hQ:∀e w,Q e w→(∃v,e=.returned v)∨(∃ps,e=.panicked ps))
  (h0:w.cell? ⟨g,o,none⟩=some (.iface 182 (.string a))) (h1:w.cell? ⟨g,o+1,none⟩=some (.iface 182 (.string b))) (hq:w.cell? ⟨q,0,none⟩=some (.func (.func kw) #[] cw))
  (hW:∀w',Lk w w'→Calls prog kw (#[.string a,.string b]++cw) w' fun e w1=>(∃t y,e=.returned (.iface t y)∧∀w2,Lk w1 w2→Calls prog ku (#[.iface t y]++cu) w2 Q)∨((∃ps,e=.panicked ps)∧Q e w1)):
  Calls prog 274 #[.slice (some ⟨g,o,none⟩) 2 cap,.func (.func ku) #[] cu,.pointer (some ⟨q,0,none⟩)] w Q:=by
 have HW:=hZ hW
 have HQ:=hZ hQ
 have HM:=hZ (qao (some ⟨g,o,none⟩) 2 cap w (by omega))
 have HA0:=hZ (fun w=>qd6 a w)
 have HA1:=hZ (fun w=>qd6 b w)
 clear hW hQ
 go_enter func274,ntmps274
 go_wp2_with (go_at_call 258;refine HM.out.mono ?_;rintro e w2 ⟨rfl,hww⟩;obtain rfl:=hww.symm;refine Hid.out ?_)
 refine hZ ?_
 go_wp2_with (go_at_call 275;refine(HA0.out _).mono ?_;rintro e w2 ⟨rfl,hww⟩;obtain rfl:=hww.symm;refine Hid.out ?_)
 refine hZ ?_
 go_wp2_with (go_at_call 275;refine(HA1.out _).mono ?_;rintro e w2 ⟨rfl,hww⟩;obtain rfl:=hww.symm;refine Hid.out ?_)
 refine hZ ?_
 go_wp2_with (go_at_fn kw;refine(HW.out _ (by exact⟨rfl,rfl,rfl,rfl⟩)).mono ?_;rintro e w1 (⟨t,y,rfl,hk⟩|⟨⟨ps,rfl⟩,hq⟩))
 ·have HK:=hZ hk
  clear hk
  go_wp2_with (go_at_fn ku;refine(HK.out _ (by exact⟨rfl,rfl,rfl,rfl⟩)).mono ?_;intro e w3 hq)
  all_goals first|exact hq|exact⟨rfl,hq⟩|(rcases HQ.out _ _ hq with⟨v,h⟩|⟨ps,h⟩ <;> cases h)
 ·exact⟨rfl,hq⟩
theorem qlb (a:Option Addr) (n cap q:Nat) (ku:Nat) (cu:Array Value) (w:World) (hn:n≤1000000) (hne:n≠2):
  Calls prog 274 #[.slice a n cap,.func (.func ku) #[] cu,.pointer (some ⟨q,0,none⟩)] w fun e w'=>e=.panicked (stopP (stopV 7))∧∃o,w'=w.alloc o:=by
 have HM:=hZ (qa4 a n 2 cap w hn hne)
 go_enter func274,ntmps274
 go_wp2_with (go_at_call 258;refine HM.out.mono ?_;rintro e w2 ⟨rfl,o,rfl⟩)
 exact⟨rfl,rfl,o,rfl⟩
theorem qla (g o cap q t0 t1:Nat) (y0 y1:Value) (ku:Nat) (cu:Array Value) (w:World)
  (h0:w.cell? ⟨g,o,none⟩=some (.iface t0 y0)) (h1:w.cell? ⟨g,o+1,none⟩=some (.iface t1 y1)) (ht:t0≠182∨((∃a,t0=182∧y0=.string a)∧t1≠182)):
  Calls prog 274 #[.slice (some ⟨g,o,none⟩) 2 cap,.func (.func ku) #[] cu,.pointer (some ⟨q,0,none⟩)] w fun e w'=>e=.panicked (stopP (stopV 6))∧∃o,w'=w.alloc o:=by
 have HM:=hZ (qao (some ⟨g,o,none⟩) 2 cap w (by omega))
 rcases ht with ht|⟨⟨a,rfl,rfl⟩,ht⟩
 ·have HA:=hZ (fun w=>qe4 t0 y0 w ht)
  clear ht
  go_enter func274,ntmps274
  go_wp2_with (go_at_call 258;refine HM.out.mono ?_;rintro e w2 ⟨rfl,hww⟩;obtain rfl:=hww.symm;refine Hid.out ?_)
  refine hZ ?_
  go_wp2_with (go_at_call 275;refine(HA.out _).mono ?_;rintro e w2 ⟨rfl,o,rfl⟩)
  exact⟨rfl,rfl,o,rfl⟩
 ·have HA:=hZ (fun w=>qe4 t1 y1 w ht)
  have HB:=hZ (fun w=>qd6 a w)
  clear ht
  go_enter func274,ntmps274
  go_wp2_with (go_at_call 258;refine HM.out.mono ?_;rintro e w2 ⟨rfl,hww⟩;obtain rfl:=hww.symm;refine Hid.out ?_)
  refine hZ ?_
  go_wp2_with (go_at_call 275;refine(HB.out _).mono ?_;rintro e w2 ⟨rfl,hww⟩;obtain rfl:=hww.symm;refine Hid.out ?_)
  refine hZ ?_
  go_wp2_with (go_at_call 275;refine(HA.out _).mono ?_;rintro e w2 ⟨rfl,o,rfl⟩)
  exact⟨rfl,rfl,o,rfl⟩
end
section
open Sc
theorem qqk (q1 q2 k t:Nat) (v y:Value) (cp:Array Value) (w:World) (Q:Ending→World→Prop)
  (eg:∀args w,(callFunc k args).run prog w=.ok (.enter k args) w) (hQ:∀e w,Q e w→(∃v,e=.returned v)∨(∃ps,e=.panicked ps))
  (h1:w.cell? ⟨q1,0,none⟩=some (.func (.func k) #[] cp)) (h2:w.cell? ⟨q2,0,none⟩=some (.iface t y)) (hK:∀w',Lk w w'→Calls prog k (#[.iface t y]++cp) w' Q):
  Calls prog 317 #[v,.pointer (some ⟨q1,0,none⟩),.pointer (some ⟨q2,0,none⟩)] w Q:=by
 have HK:=hZ hK
 have HQ:=hZ hQ
 clear hK hQ
 go_enter func317,ntmps317
 go_wp2_with (go_at_fn k;refine(HK.out _ (by exact⟨rfl,rfl,rfl,rfl⟩)).mono ?_;intro e w3 hq)
 all_goals first|exact hq|exact⟨rfl,hq⟩|(rcases HQ.out _ _ hq with⟨v,h⟩|⟨ps,h⟩ <;> cases h)
theorem qql (q1 q2 q3 q4 mb bc t:Nat) (y _z:Value) (wp:Option Addr) (w:World) (Q:Ending→World→Prop) (hQ:∀e w,Q e w→(∃v,e=.returned v)∨(∃ps,e=.panicked ps))
  (h1:w.cell? ⟨q1,0,none⟩=some (.pointer wp)) (h2:w.cell? ⟨q2,0,none⟩=some (.pointer (some ⟨mb,0,none⟩))) (h3:w.cell? ⟨q3,0,none⟩=some (.pointer (some ⟨bc,0,none⟩)))
  (hm:∃z',w.cell? ⟨mb,4,none⟩=some (.pointer z')) (hz:w.frozen? ⟨mb,4,none⟩=false) (hn2:q2≠mb) (hn3:q3≠mb)
  (hK:∀w',Lk ((w.setCell ⟨mb,4,none⟩ (.pointer wp)).alloc (.cells #[.iface t y] 116)) w'→Calls prog 283 #[.pointer (some ⟨mb,0,none⟩),.iface 281 (.pointer (some ⟨bc,0,none⟩)),.slice none 0 0,.func (.func 317) #[] #[.pointer (some ⟨q4,0,none⟩),.pointer (some ⟨w.heap.size,0,none⟩)]] w' Q):
  Calls prog 316 #[.iface t y,.pointer (some ⟨q1,0,none⟩),.pointer (some ⟨q2,0,none⟩),.pointer (some ⟨q3,0,none⟩),.pointer (some ⟨q4,0,none⟩)] w Q:=by
 obtain⟨z',hm⟩:=hm
 have HK:=hZ hK
 have HQ:=hZ hQ
 have hml:=qac hm
 have k1:∀o,(w.alloc o).cell? ⟨q1,0,none⟩=some (.pointer wp):=fun o=>(qad (qac h1) o).trans h1
 have k2:∀o,(w.alloc o).cell? ⟨q2,0,none⟩=some (.pointer (some ⟨mb,0,none⟩)):=fun o=>(qad (qac h2) o).trans h2
 have km:∀o,(w.alloc o).cell? ⟨mb,4,none⟩=some (.pointer z'):=fun o=>(qad hml o).trans hm
 have kz:∀o,(w.alloc o).frozen? ⟨mb,4,none⟩=false:=fun o=>by
  have:=hz
  simp only [World.frozen?]at this⊢
  rw [Below.heap_alloc _ _ _ hml];exact this
 have j2:∀o v,((w.alloc o).setCell ⟨mb,4,none⟩ v).cell? ⟨q2,0,none⟩=some (.pointer (some ⟨mb,0,none⟩)):=fun o v=>(qag hn2).trans (k2 o)
 have j3:∀o v,((w.alloc o).setCell ⟨mb,4,none⟩ v).cell? ⟨q3,0,none⟩=some (.pointer (some ⟨bc,0,none⟩)):=fun o v=>(qag hn3).trans ((qad (qac h3) o).trans h3)
 have l2:∀o v,((w.setCell ⟨mb,4,none⟩ v).alloc o).cell? ⟨q2,0,none⟩=some (.pointer (some ⟨mb,0,none⟩)):=fun o v=>(qad (by rw [qaf];exact qac h2) o).trans ((qag hn2).trans h2)
 have l3:∀o v,((w.setCell ⟨mb,4,none⟩ v).alloc o).cell? ⟨q3,0,none⟩=some (.pointer (some ⟨bc,0,none⟩)):=fun o v=>(qad (by rw [qaf];exact qac h3) o).trans ((qag hn3).trans h3)
 clear hK hQ
 go_enter func316,ntmps316
 go_wp2_with (go_at_call 283;refine(HK.out _ (by exact⟨rfl,rfl,rfl,rfl⟩)).mono ?_;intro e w3 hq)
 all_goals first|exact hq|exact⟨rfl,hq⟩|(rcases HQ.out _ _ hq with⟨v,h⟩|⟨ps,h⟩ <;> cases h)
theorem qqm (q1 q2 q3 q4 q5 mb ba bb bc:Nat) (v:Value) (wp:Option Addr) (w:World) (Q:Ending→World→Prop) (hQ:∀e w,Q e w→(∃v,e=.returned v)∨(∃ps,e=.panicked ps))
  (h1:w.cell? ⟨q1,0,none⟩=some (.pointer (some ⟨mb,0,none⟩))) (h2:w.cell? ⟨q2,0,none⟩=some (.pointer (some ⟨ba,0,none⟩))) (h3:w.cell? ⟨q3,0,none⟩=some (.pointer (some ⟨bc,0,none⟩))) (h4:w.cell? ⟨q4,0,none⟩=some (.pointer (some ⟨bb,0,none⟩)))
  (hm:w.cell? ⟨mb,4,none⟩=some (.pointer wp)) (hz:w.frozen? ⟨mb,4,none⟩=false) (hn1:q1≠mb) (hn4:q4≠mb)
  (hK:∀w',Lk (((w.setCell ⟨mb,4,none⟩ (.pointer (some ⟨w.heap.size+1,0,none⟩))).alloc (.cells #[.pointer wp] 117)).alloc (.cells #[.pointer (some ⟨ba,0,none⟩),.pointer (some ⟨bc,0,none⟩),.pointer wp] 393)) w'→Calls prog 283 #[.pointer (some ⟨mb,0,none⟩),.iface 281 (.pointer (some ⟨bb,0,none⟩)),.slice none 0 0,.func (.func 316) #[] #[.pointer (some ⟨w.heap.size,0,none⟩),.pointer (some ⟨q1,0,none⟩),.pointer (some ⟨q3,0,none⟩),.pointer (some ⟨q5,0,none⟩)]] w' Q):
  Calls prog 315 #[v,.pointer (some ⟨q1,0,none⟩),.pointer (some ⟨q2,0,none⟩),.pointer (some ⟨q3,0,none⟩),.pointer (some ⟨q4,0,none⟩),.pointer (some ⟨q5,0,none⟩)] w Q:=by
 have HK:=hZ hK
 have HQ:=hZ hQ
 have hml:=qac hm
 have a1:∀o,(w.alloc o).cell? ⟨q1,0,none⟩=some (.pointer (some ⟨mb,0,none⟩)):=fun o=>(qad (qac h1) o).trans h1
 have a2:∀o,(w.alloc o).cell? ⟨q2,0,none⟩=some (.pointer (some ⟨ba,0,none⟩)):=fun o=>(qad (qac h2) o).trans h2
 have a3:∀o,(w.alloc o).cell? ⟨q3,0,none⟩=some (.pointer (some ⟨bc,0,none⟩)):=fun o=>(qad (qac h3) o).trans h3
 have bm:∀o o',((w.alloc o).alloc o').cell? ⟨mb,4,none⟩=some (.pointer wp):=fun o o'=>(qau hml o o').trans hm
 have bz:∀o o',((w.alloc o).alloc o').frozen? ⟨mb,4,none⟩=false:=fun o o'=>by
  have:=hz
  simp only [World.frozen?]at this⊢
  rw [Below.heap_alloc _ _ _ (by simp;omega),Below.heap_alloc _ _ _ hml];exact this
 have l1:∀o o' v,(((w.setCell ⟨mb,4,none⟩ v).alloc o).alloc o').cell? ⟨q1,0,none⟩=some (.pointer (some ⟨mb,0,none⟩)):=fun o o' v=>(qau (by rw [qaf];exact qac h1) o o').trans ((qag hn1).trans h1)
 have l4:∀o o' v,(((w.setCell ⟨mb,4,none⟩ v).alloc o).alloc o').cell? ⟨q4,0,none⟩=some (.pointer (some ⟨bb,0,none⟩)):=fun o o' v=>(qau (by rw [qaf];exact qac h4) o o').trans ((qag hn4).trans h4)
 clear hK hQ
 go_enter func315,ntmps315
 go_wp2_with (go_at_call 283;refine(HK.out _ (by exact⟨rfl,rfl,rfl,rfl⟩)).mono ?_;intro e w3 hq)
 all_goals first|exact hq|exact⟨rfl,hq⟩|(rcases HQ.out _ _ hq with⟨v,h⟩|⟨ps,h⟩ <;> cases h)
theorem qp9 (q1 q2 q3 mb:Nat) (v nx:Value) (wp:Option Addr) (kn:Nat) (cn:Array Value) (w:World) (Q:Ending→World→Prop) (hQ:∀e w,Q e w→(∃v,e=.returned v)∨(∃ps,e=.panicked ps)) (hnx:nx=.func (.func kn) #[] cn)
  (h1:w.cell? ⟨q1,0,none⟩=some (.pointer (some ⟨mb,0,none⟩))) (h2:w.cell? ⟨q2,0,none⟩=some (.pointer wp)) (h3:w.cell? ⟨q3,0,none⟩=some nx)
  (hK:∀w',Lk w w'→Calls prog 313 #[.pointer (some ⟨mb,0,none⟩),.pointer wp,nx] w' Q):
  Calls prog 351 #[v,.pointer (some ⟨q1,0,none⟩),.pointer (some ⟨q2,0,none⟩),.pointer (some ⟨q3,0,none⟩)] w Q:=by
 subst hnx
 have HK:=hZ hK
 have HQ:=hZ hQ
 clear hK hQ
 go_enter func351,ntmps351
 go_wp2_with (go_at_call 313;refine(HK.out _ (by exact⟨rfl,rfl,rfl,rfl⟩)).mono ?_;intro e w3 hq)
 all_goals first|exact hq|exact⟨rfl,hq⟩|(rcases HQ.out _ _ hq with⟨v,h⟩|⟨ps,h⟩ <;> cases h)
theorem into_go (q1 q2 q3 mb k t:Nat) (y:Value) (np:Option Addr) (cp:Array Value) (w:World) (Q:Ending→World→Prop) (eg:∀args w,(callFunc k args).run prog w=.ok (.enter k args) w) (hQ:∀e w,Q e w→(∃v,e=.returned v)∨(∃ps,e=.panicked ps))
  (h1:w.cell? ⟨q1,0,none⟩=some (.pointer np)) (h2:w.cell? ⟨q2,0,none⟩=some (.pointer (some ⟨mb,0,none⟩))) (h3:w.cell? ⟨q3,0,none⟩=some (.func (.func k) #[] cp)) (hm:∃z',w.cell? ⟨mb,4,none⟩=some (.pointer z')) (hz:w.frozen? ⟨mb,4,none⟩=false) (hn3:q3≠mb)
  (hK:∀w',Lk (w.setCell ⟨mb,4,none⟩ (.pointer np)) w'→Calls prog k (#[.iface t y]++cp) w' Q):
  Calls prog 353 #[.iface t y,.pointer (some ⟨q1,0,none⟩),.pointer (some ⟨q2,0,none⟩),.pointer (some ⟨q3,0,none⟩)] w Q:=by
 obtain⟨z',hm⟩:=hm
 have HK:=hZ hK
 have HQ:=hZ hQ
 have l3:∀v,(w.setCell ⟨mb,4,none⟩ v).cell? ⟨q3,0,none⟩=some (.func (.func k) #[] cp):=fun v=>(qag hn3).trans h3
 clear hK hQ
 go_enter func353,ntmps353
 go_wp2_with (go_at_fn k;refine(HK.out _ (by exact⟨rfl,rfl,rfl,rfl⟩)).mono ?_;intro e w3 hq)
 all_goals first|exact hq|exact⟨rfl,hq⟩|(rcases HQ.out _ _ hq with⟨v,h⟩|⟨ps,h⟩ <;> cases h)
end
end Go.Proofs.YtldaocpojcfljaaGreatDoor
