import Derived.Test.YtldaocpojcfljaaGreatDoorD07
import Derived.LaidEql
import Derived.Laws.EntriesVeiled
set_option maxRecDepth 100000
set_option maxHeartbeats 4000000
namespace Go.Proofs.YtldaocpojcfljaaGreatDoor
open Tryz hiding parts
open Go.RowKit Go.Shelf
section
theorem qcm(w:World):Calls prog 212 #[.bool true] w fun e w'=>e=.returned (.tuple #[])/\w'=w:=by
 go_enter func212,ntmps212
 go_wp2_with (go_at_call 273;refine(qbi _ _).mono ?_;rintro e w2 ⟨rfl,hww⟩;obtain rfl:=hww.symm)
 go_end0;exact⟨rfl,rfl⟩
theorem qb1(w:World):Calls prog 212 #[.bool false] w fun e w'=>e=.panicked (stopP (stopV 8))/\∃o,w'=w.alloc o:=by
 go_enter func212,ntmps212
 go_wp2_with (go_at_call 273;refine(qbh _ _).mono ?_;rintro e w2 ⟨rfl,o,rfl⟩)
 exact⟨rfl,rfl,o,rfl⟩
def Num2(f:Nat)(a b:Int)(r:Option Value):Prop:=∀w,Calls prog f #[.int .i64 a,.int .i64 b] w fun e w'=>match r with
 |some x=>e=.returned x/\w'=w
 |none=>e=.panicked (stopP (stopV 8))/\∃o,w'=w.alloc o
theorem qtk(a b:Int)(_ha:-9223372036854775808<=a)(_ha':a<=9223372036854775807)(hb:-9223372036854775808<=b)(hb':b<=9223372036854775807)(h1:-9223372036854775808<=a+b)(h2:a+b<=9223372036854775807):Num2 178 a b (some (.iface 180 (.int .i64 (a+b)))):=by
 intro w;show Calls prog 178 #[.int .i64 a,.int .i64 b] w fun e w'=>e=.returned (.iface 180 (.int .i64 (a+b)))/\w'=w
 by_cases hs:0<=b
 ·have hd:a<=9223372036854775807-b:=by omega
  go_enter func178,ntmps178
  go_wp2_with (go_at_call 212;refine(qcm _).mono ?_;rintro e w2 ⟨rfl,hww⟩;obtain rfl:=hww.symm)
  go_wp2;go_ret;exact⟨rfl,rfl⟩
 ·have hs':b<0:=by omega
  have hd:-9223372036854775808-b<=a:=by omega
  go_enter func178,ntmps178
  go_wp2_with (go_at_call 212;refine(qcm _).mono ?_;rintro e w2 ⟨rfl,hww⟩;obtain rfl:=hww.symm)
  go_wp2;go_ret;exact⟨rfl,rfl⟩
theorem qtj(a b:Int)(ha:-9223372036854775808<=a)(ha':a<=9223372036854775807)(hb:-9223372036854775808<=b)(hb':b<=9223372036854775807)(h:a+b< -9223372036854775808\/9223372036854775807<a+b):Num2 178 a b none:=by
 intro w;show Calls prog 178 #[.int .i64 a,.int .i64 b] w fun e w'=>e=.panicked (stopP (stopV 8))/\∃o,w'=w.alloc o
 by_cases hs:0<=b
 ·have hd:¬(a<=9223372036854775807-b):=by omega
  have hs':¬(b<0):=by omega
  clear h;go_enter func178,ntmps178
  go_wp2_with (go_at_call 212;refine(qb1 _).mono ?_;rintro e w2 ⟨rfl,o,rfl⟩)
  exact⟨rfl,rfl,o,rfl⟩
 ·have hs':b<0:=by omega
  have hd:¬(-9223372036854775808-b<=a):=by omega
  clear h;go_enter func178,ntmps178
  go_wp2_with (go_at_call 212;refine(qb1 _).mono ?_;rintro e w2 ⟨rfl,o,rfl⟩)
  exact⟨rfl,rfl,o,rfl⟩
theorem qqv(a b:Int)(_ha:-9223372036854775808<=a)(_ha':a<=9223372036854775807)(hb:-9223372036854775808<=b)(hb':b<=9223372036854775807)(h1:-9223372036854775808<=a-b)(h2:a-b<=9223372036854775807):Num2 179 a b (some (.iface 180 (.int .i64 (a-b)))):=by
 intro w;show Calls prog 179 #[.int .i64 a,.int .i64 b] w fun e w'=>e=.returned (.iface 180 (.int .i64 (a-b)))/\w'=w
 by_cases hs:0<=b
 ·have hd:-9223372036854775808+b<=a:=by omega
  go_enter func179,ntmps179
  go_wp2_with (go_at_call 212;refine(qcm _).mono ?_;rintro e w2 ⟨rfl,hww⟩;obtain rfl:=hww.symm)
  go_wp2;go_ret;exact⟨rfl,rfl⟩
 ·have hs':b<0:=by omega
  have hd:a<=9223372036854775807+b:=by omega
  go_enter func179,ntmps179
  go_wp2_with (go_at_call 212;refine(qcm _).mono ?_;rintro e w2 ⟨rfl,hww⟩;obtain rfl:=hww.symm)
  go_wp2;go_ret;exact⟨rfl,rfl⟩
theorem qqu(a b:Int)(ha:-9223372036854775808<=a)(ha':a<=9223372036854775807)(hb:-9223372036854775808<=b)(hb':b<=9223372036854775807)(h:a-b< -9223372036854775808\/9223372036854775807<a-b):Num2 179 a b none:=by
 intro w;show Calls prog 179 #[.int .i64 a,.int .i64 b] w fun e w'=>e=.panicked (stopP (stopV 8))/\∃o,w'=w.alloc o
 by_cases hs:0<=b
 ·have hd:¬(-9223372036854775808+b<=a):=by omega
  have hs':¬(b<0):=by omega
  clear h;go_enter func179,ntmps179
  go_wp2_with (go_at_call 212;refine(qb1 _).mono ?_;rintro e w2 ⟨rfl,o,rfl⟩)
  exact⟨rfl,rfl,o,rfl⟩
 ·have hs':b<0:=by omega
  have hd:¬(a<=9223372036854775807+b):=by omega
  clear h;go_enter func179,ntmps179
  go_wp2_with (go_at_call 212;refine(qb1 _).mono ?_;rintro e w2 ⟨rfl,o,rfl⟩)
  exact⟨rfl,rfl,o,rfl⟩
theorem eql_num(a b:Int):Num2 183 a b (some (.iface 181 (.bool (a==b)))):=by
 intro w;show Calls prog 183 #[.int .i64 a,.int .i64 b] w fun e w'=>e=.returned (.iface 181 (.bool (a==b)))/\w'=w
 go_enter func183,ntmps183
 go_wp2;go_ret;exact⟨rfl,rfl⟩
theorem lss_num(a b:Int):Num2 184 a b (some (.iface 181 (.bool (decide (a<b))))):=by
 intro w;show Calls prog 184 #[.int .i64 a,.int .i64 b] w fun e w'=>e=.returned (.iface 181 (.bool (decide (a<b))))/\w'=w
 go_enter func184,ntmps184
 go_wp2;go_ret;exact⟨rfl,rfl⟩
end
section
open Sc
theorem VRep.asNum{G:Gh}{v:Vl}{t:Nat}{y:Value}(h:VRep G v (.iface t y)):(t=180/\∃a,v=.num a/\y=.int .i64 a/\-9223372036854775808<=a/\a<=9223372036854775807)\/(t≠180/\Kd.ok .num v=false):=by
 cases h with
 |num n h0 h1=>exact .inl ⟨rfl,n,rfl,rfl,h0,h1⟩
 |proc v b h=>right;refine⟨by decide,?_⟩;cases h <;> rfl
 |_=>exact .inr ⟨by decide,rfl⟩
end
section
def VTy(t:Nat):Prop:=t=180\/t=181\/t=182\/t=183\/t=186\/t=379\/t=246\/t=281\/t=285\/t=322
theorem isV(t:Nat)(y:Value)(h:VTy t)(w:World):(Instr.typeAssert (.iface t y) 116 116 true).run prog w=.ok (.tuple #[.iface t y,.bool true]) w:=by
 rcases h with rfl|rfl|rfl|rfl|rfl|rfl|rfl|rfl|rfl|rfl
 ·kernel_rfl
 ·kernel_rfl
 ·kernel_rfl
 ·kernel_rfl
 ·kernel_rfl
 ·kernel_rfl
 ·kernel_rfl
 ·kernel_rfl
 ·kernel_rfl
 ·kernel_rfl
theorem VRep.vty{G:Gh}{v:Sc.Vl}{t:Nat}{y:Value}(h:VRep G v (.iface t y)):VTy t:=by
 unfold VTy;cases h <;> simp
theorem qqa(t:Nat)(y:Value)(w:World)(ht:VTy t):Calls prog 269 #[.iface t y] w fun e w'=>e=.returned (.iface t y)/\w'=w:=by
 have ha:∀w,(Instr.typeAssert (.iface t y) 116 116 true).run prog w=.ok (.tuple #[.iface t y,.bool true]) w:=fun w=>isV t y ht w
 clear ht;go_enter func269,ntmps269
 go_wp2;go_ret;exact⟨rfl,rfl⟩
theorem qok(g o cap q kw ku t:Nat)(y:Value)(cw cu:Array Value)(w:World)(Q:Ending->World->Prop)
  (ew:∀args w,(callFunc kw args).run prog w=.ok (.enter kw args) w)(eg:∀args w,(callFunc ku args).run prog w=.ok (.enter ku args) w)
  (hQ:∀e w,Q e w->(∃v,e=.returned v)\/(∃ps,e=.panicked ps))(ht:VTy t)
  (hS:∀v w',Q (.returned v) w'->w'.cell? ⟨g,o,none⟩=some (.iface t y)/\w'.cell? ⟨q,0,none⟩=some (.func (.func kw) #[] cw))
  (h0:w.cell? ⟨g,o,none⟩=some (.iface t y))(hq:w.cell? ⟨q,0,none⟩=some (.func (.func kw) #[] cw))
  (hW:∀w',Lk w w'->Calls prog kw (#[.iface t y]++cw) w' fun e w1=>(∃t' y',e=.returned (.iface t' y')/\(w1.cell? ⟨g,o,none⟩=some (.iface t y)/\w1.cell? ⟨q,0,none⟩=some (.func (.func kw) #[] cw))/\∀w2,Lk w1 w2->Calls prog ku (#[.iface t' y']++cu) w2 Q)\/((∃ps,e=.panicked ps)/\Q e w1)):
  Calls prog 268 #[.slice (some ⟨g,o,none⟩) 1 cap,.func (.func ku) #[] cu,.pointer (some ⟨q,0,none⟩)] w Q:=by
 have HW:=hZ hW;have HQ:=hZ hQ;have HS:=hZ hS;have HM:=hZ (qao (some ⟨g,o,none⟩) 1 cap w (by omega));have HA:=hZ (fun w=>qqa t y w ht);clear hW hQ hS ht;go_enter func268,ntmps268
 go_wp2_with (go_at_call 258;refine HM.out.mono ?_;rintro e w2 ⟨rfl,hww⟩;obtain rfl:=hww.symm)
 go_region_held2 (fun w'=>w'.cell? ⟨g,o,none⟩=some (.iface t y)/\w'.cell? ⟨q,0,none⟩=some (.func (.func kw) #[] cw)) (first|(exact HS.out _ _ hq)|(exact HC.out.1)|go_keep)
  (first|(go_at_call 269;refine(HA.out _).mono ?_;rintro e w2 ⟨rfl,hww⟩;obtain rfl:=hww.symm)|(go_at_fn kw;refine(HW.out _ (by exact⟨rfl,rfl,rfl,rfl⟩)).mono ?_;rintro e w1 (⟨t',y',rfl,hc⟩|⟨⟨ps,rfl⟩,hq⟩);rotate_left;(exact⟨rfl,hq⟩);have HC:=hZ hc;clear hc)|(go_at_fn ku;refine(HC.out.2 _ (by exact⟨rfl,rfl,rfl,rfl⟩)).mono ?_;intro e w3 hq;rcases HQ.out _ _ hq with⟨v,rfl⟩|⟨ps,rfl⟩;rotate_left;(exact⟨rfl,hq⟩)))
 all_goals(go_wp2;exact hq)
theorem ql3(a:Option Addr)(n cap q:Nat)(ku:Nat)(cu:Array Value)(w:World)(hn:n<=1000000)(hne:n≠1):
  Calls prog 268 #[.slice a n cap,.func (.func ku) #[] cu,.pointer (some ⟨q,0,none⟩)] w fun e w'=>e=.panicked (stopP (stopV 7))/\∃o,w'=w.alloc o:=by
 have HM:=hZ (qa4 a n 1 cap w hn hne);go_enter func268,ntmps268
 go_wp2_with (go_at_call 258;refine HM.out.mono ?_;rintro e w2 ⟨rfl,o,rfl⟩)
 exact⟨rfl,rfl,o,rfl⟩
end
section
theorem qte(b:Nat)(w:World):Calls prog 272 #[.iface 246 (.pointer (some ⟨b,0,none⟩))] w fun e w'=>e=.returned (.pointer (some ⟨b,0,none⟩))/\w'=w:=by
 have ha:∀w,(Instr.typeAssert (.iface 246 (.pointer (some ⟨b,0,none⟩))) 116 246 true).run prog w=.ok (.tuple #[.pointer (some ⟨b,0,none⟩),.bool true]) w:=fun w=>qgj _ w
 go_enter func272,ntmps272
 go_wp2;go_ret;exact⟨rfl,rfl⟩
theorem qqc(t:Nat)(y:Value)(w:World)(ht:t≠246):Calls prog 272 #[.iface t y] w fun e w'=>e=.panicked (stopP (stopV 6))/\∃o,w'=w.alloc o:=by
 have ha:∀w,(Instr.typeAssert (.iface t y) 116 246 true).run prog w=.ok (.tuple #[.pointer none,.bool false]) w:=fun w=>qcd _ _ ht w
 clear ht;go_enter func272,ntmps272
 go_wp2_with (go_at_call 131;refine(qc6 _ _).mono ?_;rintro e w2 ⟨rfl,o,rfl⟩)
 exact⟨rfl,rfl,o,rfl⟩
theorem qd6(s:ByteArray)(w:World):Calls prog 275 #[.iface 182 (.string s)] w fun e w'=>e=.returned (.string s)/\w'=w:=by
 have ha:∀w,(Instr.typeAssert (.iface 182 (.string s)) 116 182 true).run prog w=.ok (.tuple #[.string s,.bool true]) w:=fun w=>is182 _ w
 go_enter func275,ntmps275
 go_wp2;go_ret;exact⟨rfl,rfl⟩
theorem qe4(t:Nat)(y:Value)(w:World)(ht:t≠182):Calls prog 275 #[.iface t y] w fun e w'=>e=.panicked (stopP (stopV 6))/\∃o,w'=w.alloc o:=by
 have ha:∀w,(Instr.typeAssert (.iface t y) 116 182 true).run prog w=.ok (.tuple #[.string ⟨#[]⟩,.bool false]) w:=fun w=>qce _ _ ht w
 clear ht;go_enter func275,ntmps275
 go_wp2_with (go_at_call 131;refine(qc6 _ _).mono ?_;rintro e w2 ⟨rfl,o,rfl⟩)
 exact⟨rfl,rfl,o,rfl⟩
theorem qtd(s:ByteArray)(w:World):Calls prog 279 #[.iface 183 (.string s)] w fun e w'=>e=.returned (.string s)/\w'=w:=by
 have ha:∀w,(Instr.typeAssert (.iface 183 (.string s)) 116 183 true).run prog w=.ok (.tuple #[.string s,.bool true]) w:=fun w=>is183 _ w
 go_enter func279,ntmps279
 go_wp2;go_ret;exact⟨rfl,rfl⟩
theorem qqb(t:Nat)(y:Value)(w:World)(ht:t≠183):Calls prog 279 #[.iface t y] w fun e w'=>e=.panicked (stopP (stopV 6))/\∃o,w'=w.alloc o:=by
 have ha:∀w,(Instr.typeAssert (.iface t y) 116 183 true).run prog w=.ok (.tuple #[.string ⟨#[]⟩,.bool false]) w:=fun w=>qcl _ _ ht w
 clear ht;go_enter func279,ntmps279
 go_wp2_with (go_at_call 131;refine(qc6 _ _).mono ?_;rintro e w2 ⟨rfl,o,rfl⟩)
 exact⟨rfl,rfl,o,rfl⟩
theorem qb0(b:Nat)(w:World):Calls prog 281 #[.iface 281 (.pointer (some ⟨b,0,none⟩))] w fun e w'=>e=.returned (.pointer (some ⟨b,0,none⟩))/\w'=w:=by
 have ha:∀w,(Instr.typeAssert (.iface 281 (.pointer (some ⟨b,0,none⟩))) 116 281 true).run prog w=.ok (.tuple #[.pointer (some ⟨b,0,none⟩),.bool true]) w:=fun w=>qsd _ w
 go_enter func281,ntmps281
 go_wp2;go_ret;exact⟨rfl,rfl⟩
theorem qcq(t:Nat)(y:Value)(w:World)(ht:t≠281):Calls prog 281 #[.iface t y] w fun e w'=>e=.panicked (stopP (stopV 6))/\∃o,w'=w.alloc o:=by
 have ha:∀w,(Instr.typeAssert (.iface t y) 116 281 true).run prog w=.ok (.tuple #[.pointer none,.bool false]) w:=fun w=>qcz _ _ ht w
 clear ht;go_enter func281,ntmps281
 go_wp2_with (go_at_call 131;refine(qc6 _ _).mono ?_;rintro e w2 ⟨rfl,o,rfl⟩)
 exact⟨rfl,rfl,o,rfl⟩
theorem qoj(g o cap q kw ku:Nat)(b:Nat)(cw cu:Array Value)(w:World)(Q:Ending->World->Prop)
  (ew:∀args w,(callFunc kw args).run prog w=.ok (.enter kw args) w)(eg:∀args w,(callFunc ku args).run prog w=.ok (.enter ku args) w)
  (hQ:∀e w,Q e w->(∃v,e=.returned v)\/(∃ps,e=.panicked ps))
  (hS:∀v w',Q (.returned v) w'->w'.cell? ⟨g,o,none⟩=some (.iface 246 (.pointer (some ⟨b,0,none⟩)))/\w'.cell? ⟨q,0,none⟩=some (.func (.func kw) #[] cw))
  (h0:w.cell? ⟨g,o,none⟩=some (.iface 246 (.pointer (some ⟨b,0,none⟩))))(hq:w.cell? ⟨q,0,none⟩=some (.func (.func kw) #[] cw))
  (hW:∀w',Lk w w'->Calls prog kw (#[.pointer (some ⟨b,0,none⟩)]++cw) w' fun e w1=>(∃t' y',e=.returned (.iface t' y')/\(w1.cell? ⟨g,o,none⟩=some (.iface 246 (.pointer (some ⟨b,0,none⟩)))/\w1.cell? ⟨q,0,none⟩=some (.func (.func kw) #[] cw))/\∀w2,Lk w1 w2->Calls prog ku (#[.iface t' y']++cu) w2 Q)\/((∃ps,e=.panicked ps)/\Q e w1)):
  Calls prog 271 #[.slice (some ⟨g,o,none⟩) 1 cap,.func (.func ku) #[] cu,.pointer (some ⟨q,0,none⟩)] w Q:=by
 have HW:=hZ hW;have HQ:=hZ hQ;have HS:=hZ hS;have HM:=hZ (qao (some ⟨g,o,none⟩) 1 cap w (by omega));have HA:=hZ (fun w=>qte b w);clear hW hQ hS;go_enter func271,ntmps271
 go_wp2_with (go_at_call 258;refine HM.out.mono ?_;rintro e w2 ⟨rfl,hww⟩;obtain rfl:=hww.symm)
 go_region_held2 (fun w'=>w'.cell? ⟨g,o,none⟩=some (.iface 246 (.pointer (some ⟨b,0,none⟩)))/\w'.cell? ⟨q,0,none⟩=some (.func (.func kw) #[] cw)) (first|(exact HS.out _ _ hq)|(exact HC.out.1)|go_keep)
  (first|(go_at_call 272;refine(HA.out _).mono ?_;rintro e w2 ⟨rfl,hww⟩;obtain rfl:=hww.symm)|(go_at_fn kw;refine(HW.out _ (by exact⟨rfl,rfl,rfl,rfl⟩)).mono ?_;rintro e w1 (⟨t',y',rfl,hc⟩|⟨⟨ps,rfl⟩,hq⟩);rotate_left;(exact⟨rfl,hq⟩);have HC:=hZ hc;clear hc)|(go_at_fn ku;refine(HC.out.2 _ (by exact⟨rfl,rfl,rfl,rfl⟩)).mono ?_;intro e w3 hq;rcases HQ.out _ _ hq with⟨v,rfl⟩|⟨ps,rfl⟩;rotate_left;(exact⟨rfl,hq⟩)))
 all_goals(go_wp2;exact hq)
theorem ql2(a:Option Addr)(n cap q:Nat)(ku:Nat)(cu:Array Value)(w:World)(hn:n<=1000000)(hne:n≠1):
  Calls prog 271 #[.slice a n cap,.func (.func ku) #[] cu,.pointer (some ⟨q,0,none⟩)] w fun e w'=>e=.panicked (stopP (stopV 7))/\∃o,w'=w.alloc o:=by
 have HM:=hZ (qa4 a n 1 cap w hn hne);go_enter func271,ntmps271
 go_wp2_with (go_at_call 258;refine HM.out.mono ?_;rintro e w2 ⟨rfl,o,rfl⟩)
 exact⟨rfl,rfl,o,rfl⟩
theorem qoi(g o cap q kw ku:Nat)(s:ByteArray)(cw cu:Array Value)(w:World)(Q:Ending->World->Prop)
  (ew:∀args w,(callFunc kw args).run prog w=.ok (.enter kw args) w)(eg:∀args w,(callFunc ku args).run prog w=.ok (.enter ku args) w)
  (hQ:∀e w,Q e w->(∃v,e=.returned v)\/(∃ps,e=.panicked ps))
  (hS:∀v w',Q (.returned v) w'->w'.cell? ⟨g,o,none⟩=some (.iface 182 (.string s))/\w'.cell? ⟨q,0,none⟩=some (.func (.func kw) #[] cw))
  (h0:w.cell? ⟨g,o,none⟩=some (.iface 182 (.string s)))(hq:w.cell? ⟨q,0,none⟩=some (.func (.func kw) #[] cw))
  (hW:∀w',Lk w w'->Calls prog kw (#[.string s]++cw) w' fun e w1=>(∃t' y',e=.returned (.iface t' y')/\(w1.cell? ⟨g,o,none⟩=some (.iface 182 (.string s))/\w1.cell? ⟨q,0,none⟩=some (.func (.func kw) #[] cw))/\∀w2,Lk w1 w2->Calls prog ku (#[.iface t' y']++cu) w2 Q)\/((∃ps,e=.panicked ps)/\Q e w1)):
  Calls prog 276 #[.slice (some ⟨g,o,none⟩) 1 cap,.func (.func ku) #[] cu,.pointer (some ⟨q,0,none⟩)] w Q:=by
 have HW:=hZ hW;have HQ:=hZ hQ;have HS:=hZ hS;have HM:=hZ (qao (some ⟨g,o,none⟩) 1 cap w (by omega));have HA:=hZ (fun w=>qd6 s w);clear hW hQ hS;go_enter func276,ntmps276
 go_wp2_with (go_at_call 258;refine HM.out.mono ?_;rintro e w2 ⟨rfl,hww⟩;obtain rfl:=hww.symm)
 go_region_held2 (fun w'=>w'.cell? ⟨g,o,none⟩=some (.iface 182 (.string s))/\w'.cell? ⟨q,0,none⟩=some (.func (.func kw) #[] cw)) (first|(exact HS.out _ _ hq)|(exact HC.out.1)|go_keep)
  (first|(go_at_call 275;refine(HA.out _).mono ?_;rintro e w2 ⟨rfl,hww⟩;obtain rfl:=hww.symm)|(go_at_fn kw;refine(HW.out _ (by exact⟨rfl,rfl,rfl,rfl⟩)).mono ?_;rintro e w1 (⟨t',y',rfl,hc⟩|⟨⟨ps,rfl⟩,hq⟩);rotate_left;(exact⟨rfl,hq⟩);have HC:=hZ hc;clear hc)|(go_at_fn ku;refine(HC.out.2 _ (by exact⟨rfl,rfl,rfl,rfl⟩)).mono ?_;intro e w3 hq;rcases HQ.out _ _ hq with⟨v,rfl⟩|⟨ps,rfl⟩;rotate_left;(exact⟨rfl,hq⟩)))
 all_goals(go_wp2;exact hq)
theorem ql0(a:Option Addr)(n cap q:Nat)(ku:Nat)(cu:Array Value)(w:World)(hn:n<=1000000)(hne:n≠1):
  Calls prog 276 #[.slice a n cap,.func (.func ku) #[] cu,.pointer (some ⟨q,0,none⟩)] w fun e w'=>e=.panicked (stopP (stopV 7))/\∃o,w'=w.alloc o:=by
 have HM:=hZ (qa4 a n 1 cap w hn hne);go_enter func276,ntmps276
 go_wp2_with (go_at_call 258;refine HM.out.mono ?_;rintro e w2 ⟨rfl,o,rfl⟩)
 exact⟨rfl,rfl,o,rfl⟩
theorem qoh(g o cap q kw ku:Nat)(a:Int)(cw cu:Array Value)(w:World)(Q:Ending->World->Prop)
  (ew:∀args w,(callFunc kw args).run prog w=.ok (.enter kw args) w)(eg:∀args w,(callFunc ku args).run prog w=.ok (.enter ku args) w)
  (hQ:∀e w,Q e w->(∃v,e=.returned v)\/(∃ps,e=.panicked ps))
  (hS:∀v w',Q (.returned v) w'->w'.cell? ⟨g,o,none⟩=some (.iface 180 (.int .i64 a))/\w'.cell? ⟨q,0,none⟩=some (.func (.func kw) #[] cw))
  (h0:w.cell? ⟨g,o,none⟩=some (.iface 180 (.int .i64 a)))(hq:w.cell? ⟨q,0,none⟩=some (.func (.func kw) #[] cw))
  (hW:∀w',Lk w w'->Calls prog kw (#[.int .i64 a]++cw) w' fun e w1=>(∃t' y',e=.returned (.iface t' y')/\(w1.cell? ⟨g,o,none⟩=some (.iface 180 (.int .i64 a))/\w1.cell? ⟨q,0,none⟩=some (.func (.func kw) #[] cw))/\∀w2,Lk w1 w2->Calls prog ku (#[.iface t' y']++cu) w2 Q)\/((∃ps,e=.panicked ps)/\Q e w1)):
  Calls prog 277 #[.slice (some ⟨g,o,none⟩) 1 cap,.func (.func ku) #[] cu,.pointer (some ⟨q,0,none⟩)] w Q:=by
 have HW:=hZ hW;have HQ:=hZ hQ;have HS:=hZ hS;have HM:=hZ (qao (some ⟨g,o,none⟩) 1 cap w (by omega));have HA:=hZ (fun w=>qd5 a w);clear hW hQ hS;go_enter func277,ntmps277
 go_wp2_with (go_at_call 258;refine HM.out.mono ?_;rintro e w2 ⟨rfl,hww⟩;obtain rfl:=hww.symm)
 go_region_held2 (fun w'=>w'.cell? ⟨g,o,none⟩=some (.iface 180 (.int .i64 a))/\w'.cell? ⟨q,0,none⟩=some (.func (.func kw) #[] cw)) (first|(exact HS.out _ _ hq)|(exact HC.out.1)|go_keep)
  (first|(go_at_call 259;refine(HA.out _).mono ?_;rintro e w2 ⟨rfl,hww⟩;obtain rfl:=hww.symm)|(go_at_fn kw;refine(HW.out _ (by exact⟨rfl,rfl,rfl,rfl⟩)).mono ?_;rintro e w1 (⟨t',y',rfl,hc⟩|⟨⟨ps,rfl⟩,hq⟩);rotate_left;(exact⟨rfl,hq⟩);have HC:=hZ hc;clear hc)|(go_at_fn ku;refine(HC.out.2 _ (by exact⟨rfl,rfl,rfl,rfl⟩)).mono ?_;intro e w3 hq;rcases HQ.out _ _ hq with⟨v,rfl⟩|⟨ps,rfl⟩;rotate_left;(exact⟨rfl,hq⟩)))
 all_goals(go_wp2;exact hq)
theorem qly(a:Option Addr)(n cap q:Nat)(ku:Nat)(cu:Array Value)(w:World)(hn:n<=1000000)(hne:n≠1):
  Calls prog 277 #[.slice a n cap,.func (.func ku) #[] cu,.pointer (some ⟨q,0,none⟩)] w fun e w'=>e=.panicked (stopP (stopV 7))/\∃o,w'=w.alloc o:=by
 have HM:=hZ (qa4 a n 1 cap w hn hne);go_enter func277,ntmps277
 go_wp2_with (go_at_call 258;refine HM.out.mono ?_;rintro e w2 ⟨rfl,o,rfl⟩)
 exact⟨rfl,rfl,o,rfl⟩
theorem qog(g o cap q kw ku:Nat)(s:ByteArray)(cw cu:Array Value)(w:World)(Q:Ending->World->Prop)
  (ew:∀args w,(callFunc kw args).run prog w=.ok (.enter kw args) w)(eg:∀args w,(callFunc ku args).run prog w=.ok (.enter ku args) w)
  (hQ:∀e w,Q e w->(∃v,e=.returned v)\/(∃ps,e=.panicked ps))
  (hS:∀v w',Q (.returned v) w'->w'.cell? ⟨g,o,none⟩=some (.iface 183 (.string s))/\w'.cell? ⟨q,0,none⟩=some (.func (.func kw) #[] cw))
  (h0:w.cell? ⟨g,o,none⟩=some (.iface 183 (.string s)))(hq:w.cell? ⟨q,0,none⟩=some (.func (.func kw) #[] cw))
  (hW:∀w',Lk w w'->Calls prog kw (#[.string s]++cw) w' fun e w1=>(∃t' y',e=.returned (.iface t' y')/\(w1.cell? ⟨g,o,none⟩=some (.iface 183 (.string s))/\w1.cell? ⟨q,0,none⟩=some (.func (.func kw) #[] cw))/\∀w2,Lk w1 w2->Calls prog ku (#[.iface t' y']++cu) w2 Q)\/((∃ps,e=.panicked ps)/\Q e w1)):
  Calls prog 278 #[.slice (some ⟨g,o,none⟩) 1 cap,.func (.func ku) #[] cu,.pointer (some ⟨q,0,none⟩)] w Q:=by
 have HW:=hZ hW;have HQ:=hZ hQ;have HS:=hZ hS;have HM:=hZ (qao (some ⟨g,o,none⟩) 1 cap w (by omega));have HA:=hZ (fun w=>qtd s w);clear hW hQ hS;go_enter func278,ntmps278
 go_wp2_with (go_at_call 258;refine HM.out.mono ?_;rintro e w2 ⟨rfl,hww⟩;obtain rfl:=hww.symm)
 go_region_held2 (fun w'=>w'.cell? ⟨g,o,none⟩=some (.iface 183 (.string s))/\w'.cell? ⟨q,0,none⟩=some (.func (.func kw) #[] cw)) (first|(exact HS.out _ _ hq)|(exact HC.out.1)|go_keep)
  (first|(go_at_call 279;refine(HA.out _).mono ?_;rintro e w2 ⟨rfl,hww⟩;obtain rfl:=hww.symm)|(go_at_fn kw;refine(HW.out _ (by exact⟨rfl,rfl,rfl,rfl⟩)).mono ?_;rintro e w1 (⟨t',y',rfl,hc⟩|⟨⟨ps,rfl⟩,hq⟩);rotate_left;(exact⟨rfl,hq⟩);have HC:=hZ hc;clear hc)|(go_at_fn ku;refine(HC.out.2 _ (by exact⟨rfl,rfl,rfl,rfl⟩)).mono ?_;intro e w3 hq;rcases HQ.out _ _ hq with⟨v,rfl⟩|⟨ps,rfl⟩;rotate_left;(exact⟨rfl,hq⟩)))
 all_goals(go_wp2;exact hq)
theorem qlw(a:Option Addr)(n cap q:Nat)(ku:Nat)(cu:Array Value)(w:World)(hn:n<=1000000)(hne:n≠1):
  Calls prog 278 #[.slice a n cap,.func (.func ku) #[] cu,.pointer (some ⟨q,0,none⟩)] w fun e w'=>e=.panicked (stopP (stopV 7))/\∃o,w'=w.alloc o:=by
 have HM:=hZ (qa4 a n 1 cap w hn hne);go_enter func278,ntmps278
 go_wp2_with (go_at_call 258;refine HM.out.mono ?_;rintro e w2 ⟨rfl,o,rfl⟩)
 exact⟨rfl,rfl,o,rfl⟩
end
section
theorem ql1(g o cap q kw ku t:Nat)(y:Value)(cw cu:Array Value)(w:World)(ew:∀args w,(callFunc kw args).run prog w=.ok (.enter kw args) w)(eg:∀args w,(callFunc ku args).run prog w=.ok (.enter ku args) w)(ht:t≠246)
  (h0:w.cell? ⟨g,o,none⟩=some (.iface t y))(hq:w.cell? ⟨q,0,none⟩=some (.func (.func kw) #[] cw)):
  Calls prog 271 #[.slice (some ⟨g,o,none⟩) 1 cap,.func (.func ku) #[] cu,.pointer (some ⟨q,0,none⟩)] w fun e w'=>e=.panicked (stopP (stopV 6))/\Below w.heap.size w w':=by
 have HM:=hZ (qao (some ⟨g,o,none⟩) 1 cap w (by omega));have HA:Hid (∀w,Calls prog 272 #[.iface t y] w fun e w'=>(e=.panicked (stopP (stopV 6))/\∃o,w'=w.alloc o)\/(∃v,e=.returned v/\Hid False)):=fun w=>(qqc t y w ht).mono fun e w h=>.inl h
 clear ht;go_enter func271,ntmps271
 go_wp2_with (go_at_call 258;refine HM.out.mono ?_;rintro e w2 ⟨rfl,hww⟩;obtain rfl:=hww.symm)
 go_region_held2 (fun w'=>w'.cell? ⟨g,o,none⟩=some (.iface t y)/\w'.cell? ⟨q,0,none⟩=some (.func (.func kw) #[] cw)) (first|(exact hF.out.elim)|go_keep)
  (first|(go_at_call 272;refine(HA.out _).mono ?_;rintro e w2 (⟨rfl,o,rfl⟩|⟨v,rfl,hF⟩);(exact⟨rfl,rfl,(qbq ((Below.refl _ _).alloc (Nat.le_refl _) _) 1)⟩))|(go_at_fn kw;refine Calls.mono (R:=fun e _=>∃t y,e=.returned (.iface t y)) hF.out.elim ?_;rintro e w3 ⟨t3,y3,rfl⟩)|(go_at_fn ku;refine Calls.mono (R:=fun e _=>∃v,e=.returned v) hF.out.elim ?_;rintro e w3 ⟨v3,rfl⟩))
 all_goals exact hF.out.elim
theorem qlz(g o cap q kw ku t:Nat)(y:Value)(cw cu:Array Value)(w:World)(ew:∀args w,(callFunc kw args).run prog w=.ok (.enter kw args) w)(eg:∀args w,(callFunc ku args).run prog w=.ok (.enter ku args) w)(ht:t≠182)
  (h0:w.cell? ⟨g,o,none⟩=some (.iface t y))(hq:w.cell? ⟨q,0,none⟩=some (.func (.func kw) #[] cw)):
  Calls prog 276 #[.slice (some ⟨g,o,none⟩) 1 cap,.func (.func ku) #[] cu,.pointer (some ⟨q,0,none⟩)] w fun e w'=>e=.panicked (stopP (stopV 6))/\Below w.heap.size w w':=by
 have HM:=hZ (qao (some ⟨g,o,none⟩) 1 cap w (by omega));have HA:Hid (∀w,Calls prog 275 #[.iface t y] w fun e w'=>(e=.panicked (stopP (stopV 6))/\∃o,w'=w.alloc o)\/(∃v,e=.returned v/\Hid False)):=fun w=>(qe4 t y w ht).mono fun e w h=>.inl h
 clear ht;go_enter func276,ntmps276
 go_wp2_with (go_at_call 258;refine HM.out.mono ?_;rintro e w2 ⟨rfl,hww⟩;obtain rfl:=hww.symm)
 go_region_held2 (fun w'=>w'.cell? ⟨g,o,none⟩=some (.iface t y)/\w'.cell? ⟨q,0,none⟩=some (.func (.func kw) #[] cw)) (first|(exact hF.out.elim)|go_keep)
  (first|(go_at_call 275;refine(HA.out _).mono ?_;rintro e w2 (⟨rfl,o,rfl⟩|⟨v,rfl,hF⟩);(exact⟨rfl,rfl,(qbq ((Below.refl _ _).alloc (Nat.le_refl _) _) 1)⟩))|(go_at_fn kw;refine Calls.mono (R:=fun e _=>∃t y,e=.returned (.iface t y)) hF.out.elim ?_;rintro e w3 ⟨t3,y3,rfl⟩)|(go_at_fn ku;refine Calls.mono (R:=fun e _=>∃v,e=.returned v) hF.out.elim ?_;rintro e w3 ⟨v3,rfl⟩))
 all_goals exact hF.out.elim
theorem qlx(g o cap q kw ku t:Nat)(y:Value)(cw cu:Array Value)(w:World)(ew:∀args w,(callFunc kw args).run prog w=.ok (.enter kw args) w)(eg:∀args w,(callFunc ku args).run prog w=.ok (.enter ku args) w)(ht:t≠180)
  (h0:w.cell? ⟨g,o,none⟩=some (.iface t y))(hq:w.cell? ⟨q,0,none⟩=some (.func (.func kw) #[] cw)):
  Calls prog 277 #[.slice (some ⟨g,o,none⟩) 1 cap,.func (.func ku) #[] cu,.pointer (some ⟨q,0,none⟩)] w fun e w'=>e=.panicked (stopP (stopV 6))/\Below w.heap.size w w':=by
 have HM:=hZ (qao (some ⟨g,o,none⟩) 1 cap w (by omega));have HA:Hid (∀w,Calls prog 259 #[.iface t y] w fun e w'=>(e=.panicked (stopP (stopV 6))/\∃o,w'=w.alloc o)\/(∃v,e=.returned v/\Hid False)):=fun w=>(qe3 t y w ht).mono fun e w h=>.inl h
 clear ht;go_enter func277,ntmps277
 go_wp2_with (go_at_call 258;refine HM.out.mono ?_;rintro e w2 ⟨rfl,hww⟩;obtain rfl:=hww.symm)
 go_region_held2 (fun w'=>w'.cell? ⟨g,o,none⟩=some (.iface t y)/\w'.cell? ⟨q,0,none⟩=some (.func (.func kw) #[] cw)) (first|(exact hF.out.elim)|go_keep)
  (first|(go_at_call 259;refine(HA.out _).mono ?_;rintro e w2 (⟨rfl,o,rfl⟩|⟨v,rfl,hF⟩);(exact⟨rfl,rfl,(qbq ((Below.refl _ _).alloc (Nat.le_refl _) _) 1)⟩))|(go_at_fn kw;refine Calls.mono (R:=fun e _=>∃t y,e=.returned (.iface t y)) hF.out.elim ?_;rintro e w3 ⟨t3,y3,rfl⟩)|(go_at_fn ku;refine Calls.mono (R:=fun e _=>∃v,e=.returned v) hF.out.elim ?_;rintro e w3 ⟨v3,rfl⟩))
 all_goals exact hF.out.elim
theorem qlv(g o cap q kw ku t:Nat)(y:Value)(cw cu:Array Value)(w:World)(ew:∀args w,(callFunc kw args).run prog w=.ok (.enter kw args) w)(eg:∀args w,(callFunc ku args).run prog w=.ok (.enter ku args) w)(ht:t≠183)
  (h0:w.cell? ⟨g,o,none⟩=some (.iface t y))(hq:w.cell? ⟨q,0,none⟩=some (.func (.func kw) #[] cw)):
  Calls prog 278 #[.slice (some ⟨g,o,none⟩) 1 cap,.func (.func ku) #[] cu,.pointer (some ⟨q,0,none⟩)] w fun e w'=>e=.panicked (stopP (stopV 6))/\Below w.heap.size w w':=by
 have HM:=hZ (qao (some ⟨g,o,none⟩) 1 cap w (by omega));have HA:Hid (∀w,Calls prog 279 #[.iface t y] w fun e w'=>(e=.panicked (stopP (stopV 6))/\∃o,w'=w.alloc o)\/(∃v,e=.returned v/\Hid False)):=fun w=>(qqb t y w ht).mono fun e w h=>.inl h
 clear ht;go_enter func278,ntmps278
 go_wp2_with (go_at_call 258;refine HM.out.mono ?_;rintro e w2 ⟨rfl,hww⟩;obtain rfl:=hww.symm)
 go_region_held2 (fun w'=>w'.cell? ⟨g,o,none⟩=some (.iface t y)/\w'.cell? ⟨q,0,none⟩=some (.func (.func kw) #[] cw)) (first|(exact hF.out.elim)|go_keep)
  (first|(go_at_call 279;refine(HA.out _).mono ?_;rintro e w2 (⟨rfl,o,rfl⟩|⟨v,rfl,hF⟩);(exact⟨rfl,rfl,(qbq ((Below.refl _ _).alloc (Nat.le_refl _) _) 1)⟩))|(go_at_fn kw;refine Calls.mono (R:=fun e _=>∃t y,e=.returned (.iface t y)) hF.out.elim ?_;rintro e w3 ⟨t3,y3,rfl⟩)|(go_at_fn ku;refine Calls.mono (R:=fun e _=>∃v,e=.returned v) hF.out.elim ?_;rintro e w3 ⟨v3,rfl⟩))
 all_goals exact hF.out.elim
theorem qnf(g o cap q kw ku:Nat)(t0 t1:Nat)(y0 y1:Value)(cw cu:Array Value)(w:World)(Q:Ending->World->Prop)
  (ew:∀args w,(callFunc kw args).run prog w=.ok (.enter kw args) w)(eg:∀args w,(callFunc ku args).run prog w=.ok (.enter ku args) w)
  (hQ:∀e w,Q e w->(∃v,e=.returned v)\/(∃ps,e=.panicked ps))(ht0:VTy t0)(ht1:VTy t1)
  (h0:w.cell? ⟨g,o,none⟩=some (.iface t0 (y0)))(h1:w.cell? ⟨g,o+1,none⟩=some (.iface t1 (y1)))(hq:w.cell? ⟨q,0,none⟩=some (.func (.func kw) #[] cw))
  (hW:∀w',Lk w w'->Calls prog kw (#[.iface t0 y0,.iface t1 y1]++cw) w' fun e w1=>(∃t y,e=.returned (.iface t y)/\∀w2,Lk w1 w2->Calls prog ku (#[.iface t y]++cu) w2 Q)\/((∃ps,e=.panicked ps)/\Q e w1)):
  Calls prog 270 #[.slice (some ⟨g,o,none⟩) 2 cap,.func (.func ku) #[] cu,.pointer (some ⟨q,0,none⟩)] w Q:=by
 have HW:=hZ hW;have HQ:=hZ hQ;have HM:=hZ (qao (some ⟨g,o,none⟩) 2 cap w (by omega));have HA0:=hZ (fun w=>qqa t0 y0 w ht0);have HA1:=hZ (fun w=>qqa t1 y1 w ht1);clear ht0 ht1;clear hW hQ;go_enter func270,ntmps270
 go_wp2_with (go_at_call 258;refine HM.out.mono ?_;rintro e w2 ⟨rfl,hww⟩;obtain rfl:=hww.symm;refine Hid.out ?_)
 refine hZ ?_;go_wp2_with (go_at_call 269;refine(HA0.out _).mono ?_;rintro e w2 ⟨rfl,hww⟩;obtain rfl:=hww.symm;refine Hid.out ?_)
 refine hZ ?_;go_wp2_with (go_at_call 269;refine(HA1.out _).mono ?_;rintro e w2 ⟨rfl,hww⟩;obtain rfl:=hww.symm;refine Hid.out ?_)
 refine hZ ?_;go_wp2_with (go_at_fn kw;refine(HW.out _ (by exact⟨rfl,rfl,rfl,rfl⟩)).mono ?_;rintro e w1 (⟨t,y,rfl,hk⟩|⟨⟨ps,rfl⟩,hq⟩))
 ·have HK:=hZ hk;clear hk;go_wp2_with (go_at_fn ku;refine(HK.out _ (by exact⟨rfl,rfl,rfl,rfl⟩)).mono ?_;intro e w3 hq)
  all_goals first|exact hq|exact⟨rfl,hq⟩|(rcases HQ.out _ _ hq with⟨v,h⟩|⟨ps,h⟩ <;> cases h)
 ·exact⟨rfl,hq⟩
theorem qlc(a:Option Addr)(n cap q:Nat)(ku:Nat)(cu:Array Value)(w:World)(hn:n<=1000000)(hne:n≠2):
  Calls prog 270 #[.slice a n cap,.func (.func ku) #[] cu,.pointer (some ⟨q,0,none⟩)] w fun e w'=>e=.panicked (stopP (stopV 7))/\∃o,w'=w.alloc o:=by
 have HM:=hZ (qa4 a n 2 cap w hn hne);go_enter func270,ntmps270
 go_wp2_with (go_at_call 258;refine HM.out.mono ?_;rintro e w2 ⟨rfl,o,rfl⟩)
 exact⟨rfl,rfl,o,rfl⟩
theorem qne(g o cap q kw ku:Nat)(a b:ByteArray)(cw cu:Array Value)(w:World)(Q:Ending->World->Prop)
  (ew:∀args w,(callFunc kw args).run prog w=.ok (.enter kw args) w)(eg:∀args w,(callFunc ku args).run prog w=.ok (.enter ku args) w)
  (hQ:∀e w,Q e w->(∃v,e=.returned v)\/(∃ps,e=.panicked ps))
  (h0:w.cell? ⟨g,o,none⟩=some (.iface 182 (.string a)))(h1:w.cell? ⟨g,o+1,none⟩=some (.iface 182 (.string b)))(hq:w.cell? ⟨q,0,none⟩=some (.func (.func kw) #[] cw))
  (hW:∀w',Lk w w'->Calls prog kw (#[.string a,.string b]++cw) w' fun e w1=>(∃t y,e=.returned (.iface t y)/\∀w2,Lk w1 w2->Calls prog ku (#[.iface t y]++cu) w2 Q)\/((∃ps,e=.panicked ps)/\Q e w1)):
  Calls prog 274 #[.slice (some ⟨g,o,none⟩) 2 cap,.func (.func ku) #[] cu,.pointer (some ⟨q,0,none⟩)] w Q:=by
 have HW:=hZ hW;have HQ:=hZ hQ;have HM:=hZ (qao (some ⟨g,o,none⟩) 2 cap w (by omega));have HA0:=hZ (fun w=>qd6 a w);have HA1:=hZ (fun w=>qd6 b w);clear hW hQ;go_enter func274,ntmps274
 go_wp2_with (go_at_call 258;refine HM.out.mono ?_;rintro e w2 ⟨rfl,hww⟩;obtain rfl:=hww.symm;refine Hid.out ?_)
 refine hZ ?_;go_wp2_with (go_at_call 275;refine(HA0.out _).mono ?_;rintro e w2 ⟨rfl,hww⟩;obtain rfl:=hww.symm;refine Hid.out ?_)
 refine hZ ?_;go_wp2_with (go_at_call 275;refine(HA1.out _).mono ?_;rintro e w2 ⟨rfl,hww⟩;obtain rfl:=hww.symm;refine Hid.out ?_)
 refine hZ ?_;go_wp2_with (go_at_fn kw;refine(HW.out _ (by exact⟨rfl,rfl,rfl,rfl⟩)).mono ?_;rintro e w1 (⟨t,y,rfl,hk⟩|⟨⟨ps,rfl⟩,hq⟩))
 ·have HK:=hZ hk;clear hk;go_wp2_with (go_at_fn ku;refine(HK.out _ (by exact⟨rfl,rfl,rfl,rfl⟩)).mono ?_;intro e w3 hq)
  all_goals first|exact hq|exact⟨rfl,hq⟩|(rcases HQ.out _ _ hq with⟨v,h⟩|⟨ps,h⟩ <;> cases h)
 ·exact⟨rfl,hq⟩
theorem qlb(a:Option Addr)(n cap q:Nat)(ku:Nat)(cu:Array Value)(w:World)(hn:n<=1000000)(hne:n≠2):
  Calls prog 274 #[.slice a n cap,.func (.func ku) #[] cu,.pointer (some ⟨q,0,none⟩)] w fun e w'=>e=.panicked (stopP (stopV 7))/\∃o,w'=w.alloc o:=by
 have HM:=hZ (qa4 a n 2 cap w hn hne);go_enter func274,ntmps274
 go_wp2_with (go_at_call 258;refine HM.out.mono ?_;rintro e w2 ⟨rfl,o,rfl⟩)
 exact⟨rfl,rfl,o,rfl⟩
theorem qla(g o cap q t0 t1:Nat)(y0 y1:Value)(ku:Nat)(cu:Array Value)(w:World)
  (h0:w.cell? ⟨g,o,none⟩=some (.iface t0 y0))(h1:w.cell? ⟨g,o+1,none⟩=some (.iface t1 y1))(ht:t0≠182\/((∃a,t0=182/\y0=.string a)/\t1≠182)):
  Calls prog 274 #[.slice (some ⟨g,o,none⟩) 2 cap,.func (.func ku) #[] cu,.pointer (some ⟨q,0,none⟩)] w fun e w'=>e=.panicked (stopP (stopV 6))/\∃o,w'=w.alloc o:=by
 have HM:=hZ (qao (some ⟨g,o,none⟩) 2 cap w (by omega));rcases ht with ht|⟨⟨a,rfl,rfl⟩,ht⟩
 ·have HA:=hZ (fun w=>qe4 t0 y0 w ht);clear ht;go_enter func274,ntmps274
  go_wp2_with (go_at_call 258;refine HM.out.mono ?_;rintro e w2 ⟨rfl,hww⟩;obtain rfl:=hww.symm;refine Hid.out ?_)
  refine hZ ?_;go_wp2_with (go_at_call 275;refine(HA.out _).mono ?_;rintro e w2 ⟨rfl,o,rfl⟩)
  exact⟨rfl,rfl,o,rfl⟩
 ·have HA:=hZ (fun w=>qe4 t1 y1 w ht);have HB:=hZ (fun w=>qd6 a w);clear ht;go_enter func274,ntmps274
  go_wp2_with (go_at_call 258;refine HM.out.mono ?_;rintro e w2 ⟨rfl,hww⟩;obtain rfl:=hww.symm;refine Hid.out ?_)
  refine hZ ?_;go_wp2_with (go_at_call 275;refine(HB.out _).mono ?_;rintro e w2 ⟨rfl,hww⟩;obtain rfl:=hww.symm;refine Hid.out ?_)
  refine hZ ?_;go_wp2_with (go_at_call 275;refine(HA.out _).mono ?_;rintro e w2 ⟨rfl,o,rfl⟩)
  exact⟨rfl,rfl,o,rfl⟩
end
section
open Sc
theorem qqk(q1 q2 k t:Nat)(v y:Value)(cp:Array Value)(w:World)(Q:Ending->World->Prop)
  (eg:∀args w,(callFunc k args).run prog w=.ok (.enter k args) w)(hQ:∀e w,Q e w->(∃v,e=.returned v)\/(∃ps,e=.panicked ps))
  (h1:w.cell? ⟨q1,0,none⟩=some (.func (.func k) #[] cp))(h2:w.cell? ⟨q2,0,none⟩=some (.iface t y))(hK:∀w',Lk w w'->Calls prog k (#[.iface t y]++cp) w' Q):
  Calls prog 317 #[v,.pointer (some ⟨q1,0,none⟩),.pointer (some ⟨q2,0,none⟩)] w Q:=by
 have HK:=hZ hK;have HQ:=hZ hQ;clear hK hQ;go_enter func317,ntmps317
 go_wp2_with (go_at_fn k;refine(HK.out _ (by exact⟨rfl,rfl,rfl,rfl⟩)).mono ?_;intro e w3 hq)
 all_goals first|exact hq|exact⟨rfl,hq⟩|(rcases HQ.out _ _ hq with⟨v,h⟩|⟨ps,h⟩ <;> cases h)
theorem qql(q1 q2 q3 q4 mb bc t:Nat)(y _z:Value)(wp:Option Addr)(w:World)(Q:Ending->World->Prop)(hQ:∀e w,Q e w->(∃v,e=.returned v)\/(∃ps,e=.panicked ps))
  (h1:w.cell? ⟨q1,0,none⟩=some (.pointer wp))(h2:w.cell? ⟨q2,0,none⟩=some (.pointer (some ⟨mb,0,none⟩)))(h3:w.cell? ⟨q3,0,none⟩=some (.pointer (some ⟨bc,0,none⟩)))
  (hm:∃z',w.cell? ⟨mb,4,none⟩=some (.pointer z'))(hz:w.frozen? ⟨mb,4,none⟩=false)(hn2:q2≠mb)(hn3:q3≠mb)
  (hK:∀w',Lk ((w.setCell ⟨mb,4,none⟩ (.pointer wp)).alloc (.cells #[.iface t y] 116)) w'->Calls prog 283 #[.pointer (some ⟨mb,0,none⟩),.iface 281 (.pointer (some ⟨bc,0,none⟩)),.slice none 0 0,.func (.func 317) #[] #[.pointer (some ⟨q4,0,none⟩),.pointer (some ⟨w.heap.size,0,none⟩)]] w' Q):
  Calls prog 316 #[.iface t y,.pointer (some ⟨q1,0,none⟩),.pointer (some ⟨q2,0,none⟩),.pointer (some ⟨q3,0,none⟩),.pointer (some ⟨q4,0,none⟩)] w Q:=by
 obtain⟨z',hm⟩:=hm;have HK:=hZ hK;have HQ:=hZ hQ;have hml:=qac hm;have k1:∀o,(w.alloc o).cell? ⟨q1,0,none⟩=some (.pointer wp):=fun o=>(qad (qac h1) o).trans h1
 have k2:∀o,(w.alloc o).cell? ⟨q2,0,none⟩=some (.pointer (some ⟨mb,0,none⟩)):=fun o=>(qad (qac h2) o).trans h2
 have km:∀o,(w.alloc o).cell? ⟨mb,4,none⟩=some (.pointer z'):=fun o=>(qad hml o).trans hm
 have kz:∀o,(w.alloc o).frozen? ⟨mb,4,none⟩=false:=fun o=>by
  have:=hz;simp only[World.frozen?]at this|-;rw[Below.heap_alloc _ _ _ hml];exact this
 have j2:∀o v,((w.alloc o).setCell ⟨mb,4,none⟩ v).cell? ⟨q2,0,none⟩=some (.pointer (some ⟨mb,0,none⟩)):=fun o v=>(qag hn2).trans (k2 o)
 have j3:∀o v,((w.alloc o).setCell ⟨mb,4,none⟩ v).cell? ⟨q3,0,none⟩=some (.pointer (some ⟨bc,0,none⟩)):=fun o v=>(qag hn3).trans ((qad (qac h3) o).trans h3)
 have l2:∀o v,((w.setCell ⟨mb,4,none⟩ v).alloc o).cell? ⟨q2,0,none⟩=some (.pointer (some ⟨mb,0,none⟩)):=fun o v=>(qad (by rw[qaf];exact qac h2) o).trans ((qag hn2).trans h2)
 have l3:∀o v,((w.setCell ⟨mb,4,none⟩ v).alloc o).cell? ⟨q3,0,none⟩=some (.pointer (some ⟨bc,0,none⟩)):=fun o v=>(qad (by rw[qaf];exact qac h3) o).trans ((qag hn3).trans h3)
 clear hK hQ;go_enter func316,ntmps316
 go_wp2_with (go_at_call 283;refine(HK.out _ (by exact⟨rfl,rfl,rfl,rfl⟩)).mono ?_;intro e w3 hq)
 all_goals first|exact hq|exact⟨rfl,hq⟩|(rcases HQ.out _ _ hq with⟨v,h⟩|⟨ps,h⟩ <;> cases h)
theorem qqm(q1 q2 q3 q4 q5 mb ba bb bc:Nat)(v:Value)(wp:Option Addr)(w:World)(Q:Ending->World->Prop)(hQ:∀e w,Q e w->(∃v,e=.returned v)\/(∃ps,e=.panicked ps))
  (h1:w.cell? ⟨q1,0,none⟩=some (.pointer (some ⟨mb,0,none⟩)))(h2:w.cell? ⟨q2,0,none⟩=some (.pointer (some ⟨ba,0,none⟩)))(h3:w.cell? ⟨q3,0,none⟩=some (.pointer (some ⟨bc,0,none⟩)))(h4:w.cell? ⟨q4,0,none⟩=some (.pointer (some ⟨bb,0,none⟩)))
  (hm:w.cell? ⟨mb,4,none⟩=some (.pointer wp))(hz:w.frozen? ⟨mb,4,none⟩=false)(hn1:q1≠mb)(hn4:q4≠mb)
  (hK:∀w',Lk (((w.setCell ⟨mb,4,none⟩ (.pointer (some ⟨w.heap.size+1,0,none⟩))).alloc (.cells #[.pointer wp] 117)).alloc (.cells #[.pointer (some ⟨ba,0,none⟩),.pointer (some ⟨bc,0,none⟩),.pointer wp] 393)) w'->Calls prog 283 #[.pointer (some ⟨mb,0,none⟩),.iface 281 (.pointer (some ⟨bb,0,none⟩)),.slice none 0 0,.func (.func 316) #[] #[.pointer (some ⟨w.heap.size,0,none⟩),.pointer (some ⟨q1,0,none⟩),.pointer (some ⟨q3,0,none⟩),.pointer (some ⟨q5,0,none⟩)]] w' Q):
  Calls prog 315 #[v,.pointer (some ⟨q1,0,none⟩),.pointer (some ⟨q2,0,none⟩),.pointer (some ⟨q3,0,none⟩),.pointer (some ⟨q4,0,none⟩),.pointer (some ⟨q5,0,none⟩)] w Q:=by
 have HK:=hZ hK;have HQ:=hZ hQ;have hml:=qac hm;have a1:∀o,(w.alloc o).cell? ⟨q1,0,none⟩=some (.pointer (some ⟨mb,0,none⟩)):=fun o=>(qad (qac h1) o).trans h1
 have a2:∀o,(w.alloc o).cell? ⟨q2,0,none⟩=some (.pointer (some ⟨ba,0,none⟩)):=fun o=>(qad (qac h2) o).trans h2
 have a3:∀o,(w.alloc o).cell? ⟨q3,0,none⟩=some (.pointer (some ⟨bc,0,none⟩)):=fun o=>(qad (qac h3) o).trans h3
 have bm:∀o o',((w.alloc o).alloc o').cell? ⟨mb,4,none⟩=some (.pointer wp):=fun o o'=>(qau hml o o').trans hm
 have bz:∀o o',((w.alloc o).alloc o').frozen? ⟨mb,4,none⟩=false:=fun o o'=>by
  have:=hz;simp only[World.frozen?]at this|-;rw[Below.heap_alloc _ _ _ (by simp;omega),Below.heap_alloc _ _ _ hml];exact this
 have l1:∀o o' v,(((w.setCell ⟨mb,4,none⟩ v).alloc o).alloc o').cell? ⟨q1,0,none⟩=some (.pointer (some ⟨mb,0,none⟩)):=fun o o' v=>(qau (by rw[qaf];exact qac h1) o o').trans ((qag hn1).trans h1)
 have l4:∀o o' v,(((w.setCell ⟨mb,4,none⟩ v).alloc o).alloc o').cell? ⟨q4,0,none⟩=some (.pointer (some ⟨bb,0,none⟩)):=fun o o' v=>(qau (by rw[qaf];exact qac h4) o o').trans ((qag hn4).trans h4)
 clear hK hQ;go_enter func315,ntmps315
 go_wp2_with (go_at_call 283;refine(HK.out _ (by exact⟨rfl,rfl,rfl,rfl⟩)).mono ?_;intro e w3 hq)
 all_goals first|exact hq|exact⟨rfl,hq⟩|(rcases HQ.out _ _ hq with⟨v,h⟩|⟨ps,h⟩ <;> cases h)
theorem qp9(q1 q2 q3 mb:Nat)(v nx:Value)(wp:Option Addr)(kn:Nat)(cn:Array Value)(w:World)(Q:Ending->World->Prop)(hQ:∀e w,Q e w->(∃v,e=.returned v)\/(∃ps,e=.panicked ps))(hnx:nx=.func (.func kn) #[] cn)
  (h1:w.cell? ⟨q1,0,none⟩=some (.pointer (some ⟨mb,0,none⟩)))(h2:w.cell? ⟨q2,0,none⟩=some (.pointer wp))(h3:w.cell? ⟨q3,0,none⟩=some nx)
  (hK:∀w',Lk w w'->Calls prog 313 #[.pointer (some ⟨mb,0,none⟩),.pointer wp,nx] w' Q):
  Calls prog 351 #[v,.pointer (some ⟨q1,0,none⟩),.pointer (some ⟨q2,0,none⟩),.pointer (some ⟨q3,0,none⟩)] w Q:=by
 subst hnx;have HK:=hZ hK;have HQ:=hZ hQ;clear hK hQ;go_enter func351,ntmps351
 go_wp2_with (go_at_call 313;refine(HK.out _ (by exact⟨rfl,rfl,rfl,rfl⟩)).mono ?_;intro e w3 hq)
 all_goals first|exact hq|exact⟨rfl,hq⟩|(rcases HQ.out _ _ hq with⟨v,h⟩|⟨ps,h⟩ <;> cases h)
theorem into_go(q1 q2 q3 mb k t:Nat)(y:Value)(np:Option Addr)(cp:Array Value)(w:World)(Q:Ending->World->Prop)(eg:∀args w,(callFunc k args).run prog w=.ok (.enter k args) w)(hQ:∀e w,Q e w->(∃v,e=.returned v)\/(∃ps,e=.panicked ps))
  (h1:w.cell? ⟨q1,0,none⟩=some (.pointer np))(h2:w.cell? ⟨q2,0,none⟩=some (.pointer (some ⟨mb,0,none⟩)))(h3:w.cell? ⟨q3,0,none⟩=some (.func (.func k) #[] cp))(hm:∃z',w.cell? ⟨mb,4,none⟩=some (.pointer z'))(hz:w.frozen? ⟨mb,4,none⟩=false)(hn3:q3≠mb)
  (hK:∀w',Lk (w.setCell ⟨mb,4,none⟩ (.pointer np)) w'->Calls prog k (#[.iface t y]++cp) w' Q):
  Calls prog 353 #[.iface t y,.pointer (some ⟨q1,0,none⟩),.pointer (some ⟨q2,0,none⟩),.pointer (some ⟨q3,0,none⟩)] w Q:=by
 obtain⟨z',hm⟩:=hm;have HK:=hZ hK;have HQ:=hZ hQ;have l3:∀v,(w.setCell ⟨mb,4,none⟩ v).cell? ⟨q3,0,none⟩=some (.func (.func k) #[] cp):=fun v=>(qag hn3).trans h3
 clear hK hQ;go_enter func353,ntmps353
 go_wp2_with (go_at_fn k;refine(HK.out _ (by exact⟨rfl,rfl,rfl,rfl⟩)).mono ?_;intro e w3 hq)
 all_goals first|exact hq|exact⟨rfl,hq⟩|(rcases HQ.out _ _ hq with⟨v,h⟩|⟨ps,h⟩ <;> cases h)
end
section
open Sc
def Wch(w:World):List Nat->Option Addr->Prop
 | [],p=>p=none
 |b::r,p=>∃ba bc q,p=some ⟨b,0,none⟩/\w.heap[b]? =some (.cells #[.pointer (some ⟨ba,0,none⟩),.pointer (some ⟨bc,0,none⟩),.pointer q] 393 (0,0))/\Wch w r q
def WPtr(w:World)(p:Option Addr):Prop:=p=none\/∃b c,p=some ⟨b,0,none⟩/\w.heap[b]? =some (.cells c 393 (0,0))
theorem Wch.ptr{w:World}:∀{bs:List Nat} {p:Option Addr},Wch w bs p->WPtr w p
 | [],_,h=>.inl h
 |b::_r,_,⟨_ba,_bc,_q,e1,e2,_⟩=>.inr ⟨b,_,e1,e2⟩
theorem qh2(d:Nat)(p q:Option Addr)(w:World)(hp:WPtr w p)(hq:WPtr w q):(Op.equalIn (d+1) 117 (.pointer p) (.pointer q)).run prog w=.ok (p==q) w:=by
 rcases hp with rfl|⟨b,c,rfl,hb⟩
 ·rcases hq with rfl|⟨b',c',rfl,hb'⟩
  ·simp[Op.equalIn,run_underlying underlying117]
  ·simp[Op.equalIn,run_underlying underlying117]
 ·rcases hq with rfl|⟨b',c',rfl,hb'⟩
  ·simp[Op.equalIn,run_underlying underlying117]
  ·by_cases e:b=b'
   ·subst e;simp[Op.equalIn,run_underlying underlying117,run_sameAddr_same,go_sem]
   ·have hs:=run_sameAddr_other (P:=prog) (w:=w) (a:=⟨b,0,none⟩) (b:=⟨b',0,none⟩) (by intro h;cases h;exact e rfl) hb hb';simp[Op.equalIn,run_underlying underlying117,hs,go_sem]
theorem eqlW(p q:Option Addr)(w:World)(hp:WPtr w p)(hq:WPtr w q):(binOp .eql 117 (.pointer p) (.pointer q)).run prog w=.ok (.bool (p==q)) w:=by
 have e:(Op.equal 117 (.pointer p) (.pointer q)).run prog w=.ok (p==q) w:=qh2 9999 p q w hp hq;simp[binOp,e]
theorem neqW(p q:Option Addr)(w:World)(hp:WPtr w p)(hq:WPtr w q):(binOp .neq 117 (.pointer p) (.pointer q)).run prog w=.ok (.bool (!(p==q))) w:=by
 have e:(Op.equal 117 (.pointer p) (.pointer q)).run prog w=.ok (p==q) w:=qh2 9999 p q w hp hq;simp[binOp,e]
def among(p:Option Addr)(bs:List Nat):Bool:=match p with
 |none=>true
 |some a=>bs.contains a.block
theorem Wch.uniq{w:World}:∀{a b:List Nat} {p:Option Addr},Wch w a p->Wch w b p->a=b
 | [],[],_,_,_=>rfl
 | [],_::_,_,h,⟨_,_,_,e,_⟩=>by rw[show _=none from h]at e;cases e
 |_::_,[],_,⟨_,_,_,e,_⟩,h=>by rw[show _=none from h]at e;cases e
 |x::r,y::r',_,⟨ba,bc,q,e1,e2,e3⟩,⟨ba',bc',q',f1,f2,f3⟩=>by
  rw[e1]at f1;cases f1;rw[e2]at f2;cases f2;rw[Wch.uniq e3 f3]
theorem Wch.measure(w:World):∃μ:Value->Nat,∀r z,Wch w r z->μ (.pointer z)=r.length:=by
 have h:∀c:Value,∃n:Nat,∀r z,c=.pointer z->Wch w r z->n=r.length:=fun c=>by
  by_cases hc:∃r z,c=.pointer z/\Wch w r z
  ·obtain⟨r,z,e,hr⟩:=hc;exact⟨r.length,fun r' z' e' hr'=>by rw[e]at e';cases e';rw[hr.uniq hr']⟩
  ·exact⟨0,fun r z e hr=>absurd ⟨r,z,e,hr⟩ hc⟩
 exact⟨fun c=>Classical.choose (h c),fun r z hr=>Classical.choose_spec (h (.pointer z)) r z rfl hr⟩
theorem qes(p q:Option Addr)(bs:List Nat)(w:World)(hp:WPtr w p)(h:Wch w bs q):
  Calls prog 352 #[.pointer p,.pointer q] w fun e w'=>e=.returned (.bool (among p bs))/\w'=w:=by
 have HP:=hZ hp;have HW:=hZ h;obtain⟨μ,hμ⟩:=Wch.measure w;have HMu:=hZ hμ;clear hp h hμ;go_enter func352,ntmps352
 go_wp2;go_loopw [1] (fun c wr=>∃r z,c=.pointer z/\Wch w r z/\among p r=among p bs/\wr=w) (fun c _=>μ c)
 case atStart=>exact⟨bs,q,rfl,HW.out,rfl,rfl⟩
 case round=>
  obtain⟨r,z,rfl,hw,ha,hww⟩:=hrel;obtain rfl:=hww.symm;have HWr:=hZ hw;have HAm:=hZ ha;have hne:=neqW z p w hw.ptr HP.out;have heq:=eqlW z p w hw.ptr HP.out;have hnn:=neqW z none w hw.ptr (.inl rfl);clear hw ha;by_cases hzp:z=p
  ·have e0:(!(z==p))=false:=by simp[hzp]
   have e1:(z==p)=true:=by simp[hzp]
   rw[e0]at hne;rw[e1]at heq;have HZ:=hZ hzp;clear hzp e0 e1;go_wp2;go_ret;refine⟨?_,rfl⟩;have hz:=HZ.out;subst hz;rw[<-HAm.out];cases r with
   |nil=>obtain rfl:z=none:=HWr.out;rfl
   |cons b r'=>obtain⟨ba,bc,q',rfl,_⟩:=HWr.out;simp[among]
  ·have e0:(!(z==p))=true:=by simp[hzp]
   have e1:(z==p)=false:=by simp[hzp]
   rw[e0]at hne;rw[e1]at heq;have HZ:=hZ hzp;clear hzp e0 e1;cases r with
   |nil=>
    obtain rfl:z=none:=HWr.out;have hnn':(binOp .neq 117 (.pointer none) (.pointer none)).run prog w=.ok (.bool false) w:=by simpa using hnn
    clear hnn;go_wp2;go_ret;refine⟨?_,rfl⟩;rw[<-HAm.out];cases p with
    |none=>exact absurd rfl HZ.out
    |some a=>rfl
   |cons b r'=>
    obtain⟨ba,bc,q',rfl,hb,hr⟩:=HWr.out;have c2:w.cell? ⟨b,2,none⟩=some (.pointer q'):=by simp[World.cell?,hb]
    have hnn':(binOp .neq 117 (.pointer (some ⟨b,0,none⟩)) (.pointer none)).run prog w=.ok (.bool true) w:=by simpa using hnn
    have HR:=hZ hr;clear hnn hb hr;go_wp2;go_roundw
    case rel=>
     refine⟨r',q',by first|trivial|rfl,HR.out,?_,by first|trivial|rfl⟩;rw[<-HAm.out];cases p with
     |none=>rfl
     |some a=>
      have hpt:b≠a.block:=fun e=>by
       rcases HP.out with h|⟨b',c',h,_⟩
       ·cases h
       ·cases h;exact HZ.out (by rw[e])
      simp[among,Ne.symm hpt]
    case measure=>rw[HMu.out _ _ HR.out,HMu.out _ _ HWr.out];simp
end
section
open Sc
theorem WPtr.kept{w w':World}{p:Option Addr}(h:∀b,b<w.heap.size->w'.heap[b]? =w.heap[b]?)(hp:WPtr w p):WPtr w' p:=by
 rcases hp with h0|⟨b,c,e1,e2⟩
 ·exact .inl h0
 ·exact .inr ⟨b,c,e1,by rw[h b (Array.getElem?_eq_some_iff.1 e2).1];exact e2⟩
theorem Wch.kept{w w':World}(h:∀b,b<w.heap.size->w'.heap[b]? =w.heap[b]?):∀{bs:List Nat} {p:Option Addr},Wch w bs p->Wch w' bs p
 | [],_,hc=>hc
 |_::_,_,⟨ba,bc,q,e1,e2,e3⟩=>⟨ba,bc,q,e1,by rw[h _ (Array.getElem?_eq_some_iff.1 e2).1];exact e2,Wch.kept h e3⟩
theorem qa8{w:World}(o1 o2 o3:Obj):∀b,b<w.heap.size->(((w.alloc o1).alloc o2).alloc o3).heap[b]? =w.heap[b]?:=fun b hb=>by
 rw[Below.heap_alloc _ _ _ (by simp;omega),Below.heap_alloc _ _ _ (by simp;omega),Below.heap_alloc _ _ _ hb]
theorem qip(mb kn:Nat)(cn:Array Value)(p:Option Addr)(w:World)(Q:Ending->World->Prop)(en:∀args w,(callFunc kn args).run prog w=.ok (.enter kn args) w)(hQ:∀e w,Q e w->(∃v,e=.returned v)\/(∃ps,e=.panicked ps))
  (hm:w.cell? ⟨mb,4,none⟩=some (.pointer p))(hp:WPtr w p)
  (hK:∀w',Lk (((w.alloc (.cells #[.pointer (some ⟨mb,0,none⟩)] 107)).alloc (.cells #[.pointer p] 117)).alloc (.cells #[.func (.func kn) #[] cn] 297)) w'->Calls prog kn cn w' Q):
  Calls prog 313 #[.pointer (some ⟨mb,0,none⟩),.pointer p,.func (.func kn) #[] cn] w Q:=by
 have HK:=hZ hK;have HQ:=hZ hQ;have km:∀o1 o2 o3,(((w.alloc o1).alloc o2).alloc o3).cell? ⟨mb,4,none⟩=some (.pointer p):=fun o1 o2 o3=>(qbp (qac hm) o1 o2 o3).trans hm
 have he:∀(W w':World),W=((w.alloc (.cells #[.pointer (some ⟨mb,0,none⟩)] 107)).alloc (.cells #[.pointer p] 117)).alloc (.cells #[.func (.func kn) #[] cn] 297)->w'.heap=W.heap->(binOp .eql 117 (.pointer p) (.pointer p)).run prog w'=.ok (.bool true) w':=fun W w' hW hh=>by
  have hp':WPtr w' p:=hp.kept fun b hb=>by rw[hh,hW];exact qa8 _ _ _ b hb
  have:=eqlW p p w' hp' hp';simpa using this
 have hd:∀n,(binOp .eql 117 (.pointer p) (.pointer p)).run prog ((((w.alloc (.cells #[.pointer (some ⟨mb,0,none⟩)] 107)).alloc (.cells #[.pointer p] 117)).alloc (.cells #[.func (.func kn) #[] cn] 297)).drewN n)=.ok (.bool true) ((((w.alloc (.cells #[.pointer (some ⟨mb,0,none⟩)] 107)).alloc (.cells #[.pointer p] 117)).alloc (.cells #[.func (.func kn) #[] cn] 297)).drewN n):=fun n=>he _ _ rfl rfl
 clear hK hQ hp he;go_enter func313,ntmps313
 go_wp2;go_quiet (fail)
 go_wp2_with (go_at_fn kn;refine(HK.out _ (by exact⟨rfl,rfl,rfl,rfl⟩)).mono ?_;intro e w3 hq)
 all_goals first|exact hq|exact⟨rfl,hq⟩|(rcases HQ.out _ _ hq with⟨v,h⟩|⟨ps,h⟩ <;> cases h)
theorem qay{w w':World}(o:Obj)(h:w'.heap=w.heap):(w'.alloc o).heap=(w.alloc o).heap:=by
 apply Array.ext_getElem?;intro c;have hs:w'.heap.size=w.heap.size:=by rw[h]
 rcases Nat.lt_trichotomy c w.heap.size with h1|h1|h1
 ·rw[Below.heap_alloc _ _ _ h1,Below.heap_alloc _ _ _ (by rw[hs];exact h1),h]
 ·rw[h1,heap_alloc_new,<-hs,heap_alloc_new]
 ·rw[Array.getElem?_eq_none (by simp;omega),Array.getElem?_eq_none (by simp;omega)]
theorem qcv{w w':World}(a:Addr)(v:Value)(h:w'.heap=w.heap):(w'.setCell a v).heap=(w.setCell a v).heap:=by simp only[World.setCell,h]
theorem qiq(mb kn b ba bc:Nat)(cn:Array Value)(p q:Option Addr)(bs:List Nat)(w:World)(Q:Ending->World->Prop)(hQ:∀e w,Q e w->(∃v,e=.returned v)\/(∃ps,e=.panicked ps))
  (hm:w.cell? ⟨mb,4,none⟩=some (.pointer (some ⟨b,0,none⟩)))(hz:w.frozen? ⟨mb,4,none⟩=false)(hb:w.heap[b]? =some (.cells #[.pointer (some ⟨ba,0,none⟩),.pointer (some ⟨bc,0,none⟩),.pointer q] 393 (0,0)))(hbm:b≠mb)(hp:Wch w bs p)(hnb:b∉bs)
  (hK:∀w',Lk (((((w.setCell ⟨mb,4,none⟩ (.pointer q)).alloc (.cells #[.pointer (some ⟨mb,0,none⟩)] 107)).alloc (.cells #[.pointer p] 117)).alloc (.cells #[.func (.func kn) #[] cn] 297)).alloc (.cells #[.func (.func 351) #[] #[.pointer (some ⟨w.heap.size,0,none⟩),.pointer (some ⟨w.heap.size+1,0,none⟩),.pointer (some ⟨w.heap.size+2,0,none⟩)]] 294)) w'->Calls prog 283 #[.pointer (some ⟨mb,0,none⟩),.iface 281 (.pointer (some ⟨bc,0,none⟩)),.slice none 0 0,.func (.func 351) #[] #[.pointer (some ⟨w.heap.size,0,none⟩),.pointer (some ⟨w.heap.size+1,0,none⟩),.pointer (some ⟨w.heap.size+2,0,none⟩)]] w' Q):
  Calls prog 313 #[.pointer (some ⟨mb,0,none⟩),.pointer p,.func (.func kn) #[] cn] w Q:=by
 have HK:=hZ hK;have HQ:=hZ hQ;have hml:=qac hm;have hbl:b<w.heap.size:=(Array.getElem?_eq_some_iff.1 hb).1;have km:∀o1 o2 o3,(((w.alloc o1).alloc o2).alloc o3).cell? ⟨mb,4,none⟩=some (.pointer (some ⟨b,0,none⟩)):=fun o1 o2 o3=>(qbp hml o1 o2 o3).trans hm
 have hpb:p≠some ⟨b,0,none⟩:=fun e=>by
  cases bs with
  |nil=>rw[show p=none from hp]at e;cases e
  |cons c r=>obtain⟨_,_,_,e1,_⟩:=hp;rw[e1]at e;cases e;exact hnb (by simp)
 have hd:∀n,(binOp .eql 117 (.pointer (some ⟨b,0,none⟩)) (.pointer p)).run prog ((((w.alloc (.cells #[.pointer (some ⟨mb,0,none⟩)] 107)).alloc (.cells #[.pointer p] 117)).alloc (.cells #[.func (.func kn) #[] cn] 297)).drewN n)=.ok (.bool false) ((((w.alloc (.cells #[.pointer (some ⟨mb,0,none⟩)] 107)).alloc (.cells #[.pointer p] 117)).alloc (.cells #[.func (.func kn) #[] cn] 297)).drewN n):=fun n=>by
  have h1:WPtr ((((w.alloc (.cells #[.pointer (some ⟨mb,0,none⟩)] 107)).alloc (.cells #[.pointer p] 117)).alloc (.cells #[.func (.func kn) #[] cn] 297)).drewN n) (some ⟨b,0,none⟩):=WPtr.kept (w:=w) (fun b hb=>qa8 _ _ _ b hb) (.inr ⟨b,_,rfl,hb⟩);have h2:WPtr ((((w.alloc (.cells #[.pointer (some ⟨mb,0,none⟩)] 107)).alloc (.cells #[.pointer p] 117)).alloc (.cells #[.func (.func kn) #[] cn] 297)).drewN n) p:=WPtr.kept (w:=w) (fun b hb=>qa8 _ _ _ b hb) hp.ptr;have:=eqlW (some ⟨b,0,none⟩) p _ h1 h2;rw[this];have:(some (⟨b,0,none⟩:Addr)==p)=false:=by simp[Ne.symm hpb]
  rw[this]
 have HA:Hid (∀(w5:World) (o:Obj),w5.heap=(((w.alloc (.cells #[.pointer (some ⟨mb,0,none⟩)] 107)).alloc (.cells #[.pointer p] 117)).alloc (.cells #[.func (.func kn) #[] cn] 297)).heap->Calls prog 352 #[.pointer (some ⟨b,0,none⟩),.pointer p] (w5.alloc o) fun e w2=>e=.returned (.bool false)/\w2=w5.alloc o):=fun w5 o hl=>by
  have hk:∀c,c<w.heap.size->(w5.alloc o).heap[c]? =w.heap[c]?:=fun c hc=>by rw[Below.heap_alloc _ _ _ (by rw[hl];simp;omega),hl];exact qa8 _ _ _ c hc
  have:=qes (some ⟨b,0,none⟩) p bs (w5.alloc o) (WPtr.kept hk (.inr ⟨b,_,rfl,hb⟩)) (hp.kept hk);have e:among (some ⟨b,0,none⟩) bs=false:=by simp[among,hnb]
  rw[e]at this;exact this
 have HF:Hid (∀(w5:World),w5.heap=(((w.alloc (.cells #[.pointer (some ⟨mb,0,none⟩)] 107)).alloc (.cells #[.pointer p] 117)).alloc (.cells #[.func (.func kn) #[] cn] 297)).heap->(w5.heap.size=w.heap.size+3)/\w5.cell? ⟨mb,4,none⟩=some (.pointer (some ⟨b,0,none⟩))/\w5.frozen? ⟨mb,4,none⟩=false/\w5.cell? ⟨b,2,none⟩=some (.pointer q)/\w5.cell? ⟨b,1,none⟩=some (.pointer (some ⟨bc,0,none⟩))/\w5.cell? ⟨w.heap.size,0,none⟩=some (.pointer (some ⟨mb,0,none⟩))/\w5.cell? ⟨w.heap.size+1,0,none⟩=some (.pointer p)):=fun w5 hl=>by
  have hc:∀a,w5.cell? a=(((w.alloc (.cells #[.pointer (some ⟨mb,0,none⟩)] 107)).alloc (.cells #[.pointer p] 117)).alloc (.cells #[.func (.func kn) #[] cn] 297)).cell? a:=fun a=>by simp only[World.cell?,hl]
  refine⟨by rw[hl];simp,by rw[hc];exact km _ _ _,?_,?_,?_,?_,?_⟩
  ·have:=hz;simp only[World.frozen?,hl]at this|-;rw[qa8 _ _ _ mb hml];exact this
  ·rw[hc,qbp hbl];simp[World.cell?,hb]
  ·rw[hc,qbp hbl];simp[World.cell?,hb]
  ·rw[hc];exact(qau (by simp) _ _).trans (qbs _ _ _ _ rfl)
  ·rw[hc];exact(qad (by simp) _).trans (qbs _ _ _ _ (by simp))
 clear hK hQ hp hb hnb hpb;go_enter func313,ntmps313
 go_wp2;go_quiet (fail)
 obtain⟨w5,hw5⟩:∃w5,w5=(((w.alloc (.cells #[.pointer (some ⟨mb,0,none⟩)] 107)).alloc (.cells #[.pointer p] 117)).alloc (.cells #[.func (.func kn) #[] cn] 297)).drewN nq:=⟨_,rfl⟩;rw[<-hw5];have h5:w5.heap=(((w.alloc (.cells #[.pointer (some ⟨mb,0,none⟩)] 107)).alloc (.cells #[.pointer p] 117)).alloc (.cells #[.func (.func kn) #[] cn] 297)).heap:=by rw[hw5];rfl
 have H5:=hZ h5;have HW5:=hZ hw5;obtain⟨hs5,f1,f2,f3,f4,f5,f6⟩:=HF.out w5 h5;have g1:∀o,(w5.alloc o).cell? ⟨mb,4,none⟩=some (.pointer (some ⟨b,0,none⟩)):=fun o=>(qad (qac f1) o).trans f1
 have g2:∀o,(w5.alloc o).frozen? ⟨mb,4,none⟩=false:=fun o=>by
  have:=f2;simp only[World.frozen?]at this|-;rw[Below.heap_alloc _ _ _ (qac f1)];exact this
 have g3:∀o,(w5.alloc o).cell? ⟨b,2,none⟩=some (.pointer q):=fun o=>(qad (qac f3) o).trans f3
 have g5:∀o,(w5.alloc o).cell? ⟨w.heap.size,0,none⟩=some (.pointer (some ⟨mb,0,none⟩)):=fun o=>(qad (qac f5) o).trans f5
 have g6:∀o,(w5.alloc o).cell? ⟨w.heap.size+1,0,none⟩=some (.pointer p):=fun o=>(qad (qac f6) o).trans f6
 have hwm:w.heap.size≠mb:=by omega
 have l4:∀o v,((w5.setCell ⟨mb,4,none⟩ v).alloc o).cell? ⟨b,1,none⟩=some (.pointer (some ⟨bc,0,none⟩)):=fun o v=>(qad (by rw[qaf];exact qac f4) o).trans ((qag hbm).trans f4)
 have l5:∀o v,((w5.setCell ⟨mb,4,none⟩ v).alloc o).cell? ⟨w.heap.size,0,none⟩=some (.pointer (some ⟨mb,0,none⟩)):=fun o v=>(qad (by rw[qaf];exact qac f5) o).trans ((qag hwm).trans f5)
 have m4:∀o v,((w5.alloc o).setCell ⟨mb,4,none⟩ v).cell? ⟨b,1,none⟩=some (.pointer (some ⟨bc,0,none⟩)):=fun o v=>(qag hbm).trans ((qad (qac f4) o).trans f4)
 have m5:∀o v,((w5.alloc o).setCell ⟨mb,4,none⟩ v).cell? ⟨w.heap.size,0,none⟩=some (.pointer (some ⟨mb,0,none⟩)):=fun o v=>(qag hwm).trans ((qad (qac f5) o).trans f5)
 have hw5m:w5.heap.size≠mb:=by omega
 have m7:∀x v,((w5.alloc (.cells #[x] 294)).setCell ⟨mb,4,none⟩ v).cell? ⟨w5.heap.size,0,none⟩=some x:=fun x v=>(qag hw5m).trans (qbs _ _ _ _ rfl)
 have l7:∀x v,((w5.setCell ⟨mb,4,none⟩ v).alloc (.cells #[x] 294)).cell? ⟨w5.heap.size,0,none⟩=some x:=fun x v=>qbs _ _ _ _ qaf
 have HG1:Hid (((w5.setCell ⟨mb,4,none⟩ (.pointer q)).alloc (.cells #[.func (.func 351) #[] #[.pointer (some ⟨w.heap.size,0,none⟩),.pointer (some ⟨w.heap.size+1,0,none⟩),.pointer (some ⟨w.heap.size+2,0,none⟩)]] 294)).heap=(((((w.setCell ⟨mb,4,none⟩ (.pointer q)).alloc (.cells #[.pointer (some ⟨mb,0,none⟩)] 107)).alloc (.cells #[.pointer p] 117)).alloc (.cells #[.func (.func kn) #[] cn] 297)).alloc (.cells #[.func (.func 351) #[] #[.pointer (some ⟨w.heap.size,0,none⟩),.pointer (some ⟨w.heap.size+1,0,none⟩),.pointer (some ⟨w.heap.size+2,0,none⟩)]] 294)).heap):=by
  refine qay _ ?_;rw[qcv _ _ H5.out,qbk _ _ _ (by simp;omega)];refine qay _ ?_;rw[qbk _ _ _ (by simp;omega)];refine qay _ ?_;exact qbk _ _ _ hml
 have HG2:Hid (((w5.alloc (.cells #[.func (.func 351) #[] #[.pointer (some ⟨w.heap.size,0,none⟩),.pointer (some ⟨w.heap.size+1,0,none⟩),.pointer (some ⟨w.heap.size+2,0,none⟩)]] 294)).setCell ⟨mb,4,none⟩ (.pointer q)).heap=(((((w.setCell ⟨mb,4,none⟩ (.pointer q)).alloc (.cells #[.pointer (some ⟨mb,0,none⟩)] 107)).alloc (.cells #[.pointer p] 117)).alloc (.cells #[.func (.func kn) #[] cn] 297)).alloc (.cells #[.func (.func 351) #[] #[.pointer (some ⟨w.heap.size,0,none⟩),.pointer (some ⟨w.heap.size+1,0,none⟩),.pointer (some ⟨w.heap.size+2,0,none⟩)]] 294)).heap):=by
  rw[qbk _ _ _ (by omega)];exact HG1.out
 have HT5:Hid (w5.tape=w.tape/\w5.os=w.os/\w5.output=w.output):=by rw[HW5.out];exact⟨rfl,rfl,rfl⟩
 have HS5:=hZ hs5;clear hw5 h5 hs5;go_wp2_with (go_at_call 352;refine(HA.out _ _ H5.out).mono ?_;rintro e w2 ⟨rfl,hww⟩;obtain rfl:=hww.symm)
 go_wp2;refine qai 5 (by kernel_rfl) (by kernel_rfl) ?_;simp only[List.take_succ_cons,List.take_zero,List.drop_succ_cons,List.drop_zero];repeat still_step
 refine wpStill_nil ?_;go_wp2;refine qai 7 (by kernel_rfl) (by kernel_rfl) ?_;simp only[List.take_succ_cons,List.take_zero,List.drop_succ_cons,List.drop_zero];repeat still_step
 refine wpStill_nil ?_;go_wp2_with (go_at_call 283;refine(HK.out _ (by first|exact⟨HG1.out,HT5.out.1,HT5.out.2.1,HT5.out.2.2⟩|exact⟨HG2.out,HT5.out.1,HT5.out.2.1,HT5.out.2.2⟩)).mono ?_;intro e w3 hq)
 all_goals first|exact hq|exact⟨rfl,hq⟩|(rcases HQ.out _ _ hq with⟨v,h⟩|⟨ps,h⟩ <;> cases h)
end
section
open Sc
theorem Wch.split{w:World}:∀{a:List Nat} {b:List Nat} {p:Option Addr},Wch w (a++b) p->∃q,Wch w b q
 | [],_,p,h=>⟨p,h⟩
 |_::_,_,_,⟨_,_,_q,_,_,h⟩=>Wch.split h
theorem qir(mb kn c ca cc:Nat)(cn:Array Value)(p p0:Option Addr)(pre ws:List Nat)(w:World)(Q:Ending->World->Prop)(hQ:∀e w,Q e w->(∃v,e=.returned v)\/(∃ps,e=.panicked ps))
  (hm:w.cell? ⟨mb,4,none⟩=some (.pointer p0))(hp0:Wch w ws p0)(hp:Wch w (pre++c::ws) p)(hne:p≠p0)(hnd:(pre++c::ws).Nodup)(hc:w.heap[c]? =some (.cells #[.pointer (some ⟨ca,0,none⟩),.pointer (some ⟨cc,0,none⟩),.pointer p0] 393 (0,0)))
  (hK:∀w',Lk (((((w.alloc (.cells #[.pointer (some ⟨mb,0,none⟩)] 107)).alloc (.cells #[.pointer p] 117)).alloc (.cells #[.func (.func kn) #[] cn] 297)).alloc (.cells #[.func (.func 351) #[] #[.pointer (some ⟨w.heap.size,0,none⟩),.pointer (some ⟨w.heap.size+1,0,none⟩),.pointer (some ⟨w.heap.size+2,0,none⟩)]] 294)).alloc (.cells #[.pointer (some ⟨c,0,none⟩)] 117)) w'->Calls prog 283 #[.pointer (some ⟨mb,0,none⟩),.iface 281 (.pointer (some ⟨ca,0,none⟩)),.slice none 0 0,.func (.func 353) #[] #[.pointer (some ⟨w.heap.size+4,0,none⟩),.pointer (some ⟨w.heap.size,0,none⟩),.pointer (some ⟨w.heap.size+3,0,none⟩)]] w' Q):
  Calls prog 313 #[.pointer (some ⟨mb,0,none⟩),.pointer p,.func (.func kn) #[] cn] w Q:=by
 have HK:=hZ hK;have HQ:=hZ hQ;have hml:=qac hm;have km:∀o1 o2 o3,(((w.alloc o1).alloc o2).alloc o3).cell? ⟨mb,4,none⟩=some (.pointer p0):=fun o1 o2 o3=>(qbp hml o1 o2 o3).trans hm
 have hd:∀n,(binOp .eql 117 (.pointer p0) (.pointer p)).run prog ((((w.alloc (.cells #[.pointer (some ⟨mb,0,none⟩)] 107)).alloc (.cells #[.pointer p] 117)).alloc (.cells #[.func (.func kn) #[] cn] 297)).drewN n)=.ok (.bool false) ((((w.alloc (.cells #[.pointer (some ⟨mb,0,none⟩)] 107)).alloc (.cells #[.pointer p] 117)).alloc (.cells #[.func (.func kn) #[] cn] 297)).drewN n):=fun n=>by
  have h1:WPtr ((((w.alloc (.cells #[.pointer (some ⟨mb,0,none⟩)] 107)).alloc (.cells #[.pointer p] 117)).alloc (.cells #[.func (.func kn) #[] cn] 297)).drewN n) p0:=WPtr.kept (w:=w) (fun b hb=>qa8 _ _ _ b hb) hp0.ptr;have h2:WPtr ((((w.alloc (.cells #[.pointer (some ⟨mb,0,none⟩)] 107)).alloc (.cells #[.pointer p] 117)).alloc (.cells #[.func (.func kn) #[] cn] 297)).drewN n) p:=WPtr.kept (w:=w) (fun b hb=>qa8 _ _ _ b hb) hp.ptr;have:=eqlW p0 p _ h1 h2;rw[this];have:(p0==p)=false:=by simp[Ne.symm hne]
  rw[this]
 have hamong:among p0 (pre++c::ws)=true:=by
  cases ws with
  |nil=>rw[show p0=none from hp0];rfl
  |cons b r=>obtain⟨_,_,_,e1,_⟩:=hp0;rw[e1];simp[among]
 have HA:Hid (∀(w5:World) (o:Obj),w5.heap=(((w.alloc (.cells #[.pointer (some ⟨mb,0,none⟩)] 107)).alloc (.cells #[.pointer p] 117)).alloc (.cells #[.func (.func kn) #[] cn] 297)).heap->Calls prog 352 #[.pointer p0,.pointer p] (w5.alloc o) fun e w2=>e=.returned (.bool true)/\w2=w5.alloc o):=fun w5 o hl=>by
  have hk:∀c,c<w.heap.size->(w5.alloc o).heap[c]? =w.heap[c]?:=fun c hc=>by rw[Below.heap_alloc _ _ _ (by rw[hl];simp;omega),hl];exact qa8 _ _ _ c hc
  have:=qes p0 p (pre++c::ws) (w5.alloc o) (hp0.ptr.kept hk) (hp.kept hk);rw[hamong]at this;exact this
 have HF:Hid (∀(w5:World),w5.heap=(((w.alloc (.cells #[.pointer (some ⟨mb,0,none⟩)] 107)).alloc (.cells #[.pointer p] 117)).alloc (.cells #[.func (.func kn) #[] cn] 297)).heap->(w5.heap.size=w.heap.size+3)/\w5.cell? ⟨mb,4,none⟩=some (.pointer p0)/\w5.cell? ⟨w.heap.size,0,none⟩=some (.pointer (some ⟨mb,0,none⟩))/\w5.cell? ⟨w.heap.size+1,0,none⟩=some (.pointer p)):=fun w5 hl=>by
  have hc:∀a,w5.cell? a=(((w.alloc (.cells #[.pointer (some ⟨mb,0,none⟩)] 107)).alloc (.cells #[.pointer p] 117)).alloc (.cells #[.func (.func kn) #[] cn] 297)).cell? a:=fun a=>by simp only[World.cell?,hl]
  refine⟨by rw[hl];simp,by rw[hc];exact km _ _ _,?_,?_⟩
  ·rw[hc];exact(qau (by simp) _ _).trans (qbs _ _ _ _ rfl)
  ·rw[hc];exact(qad (by simp) _).trans (qbs _ _ _ _ (by simp))
 have HP:=hZ hp;have HP0:=hZ hp0;have HC:=hZ hc;have HND:=hZ hnd;obtain⟨μ,hμ⟩:=Wch.measure w;have HMu:=hZ hμ;clear hK hQ hp hp0 hc hne hnd hamong hμ;go_enter func313,ntmps313
 go_wp2;go_quiet (fail)
 obtain⟨w5,hw5⟩:∃w5,w5=(((w.alloc (.cells #[.pointer (some ⟨mb,0,none⟩)] 107)).alloc (.cells #[.pointer p] 117)).alloc (.cells #[.func (.func kn) #[] cn] 297)).drewN nq:=⟨_,rfl⟩;rw[<-hw5];have h5:w5.heap=(((w.alloc (.cells #[.pointer (some ⟨mb,0,none⟩)] 107)).alloc (.cells #[.pointer p] 117)).alloc (.cells #[.func (.func kn) #[] cn] 297)).heap:=by rw[hw5];rfl
 have H5:=hZ h5;have HW5:=hZ hw5;obtain⟨hs5,f1,f5,f6⟩:=HF.out w5 h5;have g1:∀o,(w5.alloc o).cell? ⟨mb,4,none⟩=some (.pointer p0):=fun o=>(qad (qac f1) o).trans f1
 have g5:∀o,(w5.alloc o).cell? ⟨w.heap.size,0,none⟩=some (.pointer (some ⟨mb,0,none⟩)):=fun o=>(qad (qac f5) o).trans f5
 have g6:∀o,(w5.alloc o).cell? ⟨w.heap.size+1,0,none⟩=some (.pointer p):=fun o=>(qad (qac f6) o).trans f6
 have HS5:=hZ hs5;clear hw5 h5 hs5;go_wp2_with (go_at_call 352;refine(HA.out _ _ H5.out).mono ?_;rintro e w2 ⟨rfl,hww⟩;obtain rfl:=hww.symm)
 go_wp2;go_loopw [55] (fun _ wr=>∃a r z,pre++[c]=a++r/\r≠[]/\Wch w (r++ws) z/\wr.heap=((w5.alloc (.cells #[.func (.func 351) #[] #[.pointer (some ⟨w.heap.size,0,none⟩),.pointer (some ⟨w.heap.size+1,0,none⟩),.pointer (some ⟨w.heap.size+2,0,none⟩)]] 294)).alloc (.cells #[.pointer z] 117)).heap/\wr.tape=w5.tape/\wr.os=w5.os/\wr.output=w5.output) (fun _ wr=>match wr.cell? ⟨w5.heap.size+1,0,none⟩with|some x=>μ x|none=>0)
 case atStart=>exact⟨[],pre++[c],p,rfl,by simp,by simpa using HP.out,rfl,rfl,rfl,rfl⟩
 case round=>
  obtain⟨a,r,z,har,hrn,hwz,hwr,hwt,hwo,hwu⟩:=hrel;obtain⟨b,r',rfl⟩:=List.exists_cons_of_ne_nil hrn;obtain⟨ba,bc,q',rfl,hb,hr'⟩:=hwz;have hs5':=HS5.out;have hbl:b<w.heap.size:=(Array.getElem?_eq_some_iff.1 hb).1;have keep:∀x,x<w.heap.size->wr.heap[x]? =w.heap[x]?:=fun x hx=>by
   rw[hwr,Below.heap_alloc _ _ _ (by simp;omega),Below.heap_alloc _ _ _ (by omega),H5.out];exact qa8 _ _ _ x hx
  have k5:∀x o,x<w5.heap.size->wr.cell? ⟨x,o,none⟩=w5.cell? ⟨x,o,none⟩:=fun x o hx=>by
   simp only[World.cell?,hwr];rw[Below.heap_alloc _ _ _ (by simp;omega),Below.heap_alloc _ _ _ hx]
  have e1:wr.cell? ⟨w5.heap.size+1,0,none⟩=some (.pointer (some ⟨b,0,none⟩)):=by
   have:=qbs (w:=w5.alloc (.cells #[.func (.func 351) #[] #[.pointer (some ⟨w.heap.size,0,none⟩),.pointer (some ⟨w.heap.size+1,0,none⟩),.pointer (some ⟨w.heap.size+2,0,none⟩)]] 294)) #[.pointer (some ⟨b,0,none⟩)] 117 0 (w5.heap.size+1) (by simp);simp only[World.cell?,hwr]at this|-;exact this
  have e2:wr.frozen? ⟨w5.heap.size+1,0,none⟩=false:=by
   have h:=heap_alloc_new (w:=w5.alloc (.cells #[.func (.func 351) #[] #[.pointer (some ⟨w.heap.size,0,none⟩),.pointer (some ⟨w.heap.size+1,0,none⟩),.pointer (some ⟨w.heap.size+2,0,none⟩)]] 294)) (o:=.cells #[.pointer (some ⟨b,0,none⟩)] 117);have hz:(w5.alloc (.cells #[.func (.func 351) #[] #[.pointer (some ⟨w.heap.size,0,none⟩),.pointer (some ⟨w.heap.size+1,0,none⟩),.pointer (some ⟨w.heap.size+2,0,none⟩)]] 294)).heap.size=w5.heap.size+1:=by simp
   rw[hz]at h;simp only[World.frozen?,hwr,h];simp
  have e3:wr.cell? ⟨b,2,none⟩=some (.pointer q'):=by simp[World.cell?,keep b hbl,hb]
  have e4:wr.cell? ⟨w.heap.size,0,none⟩=some (.pointer (some ⟨mb,0,none⟩)):=(k5 _ _ (by omega)).trans f5;have e5:wr.cell? ⟨mb,4,none⟩=some (.pointer p0):=(k5 _ _ (by omega)).trans f1;have hq1:WPtr wr q':=WPtr.kept keep hr'.ptr;have hq2:WPtr wr p0:=WPtr.kept keep HP0.out.ptr;have HR:=hZ (And.intro har (And.intro hb (And.intro hr' (And.intro hwr (And.intro hwt (And.intro hwo hwu))))));cases r' with
  |nil=>
   have hbc:b=c:=by
    have:=congrArg List.getLast? har;simp at this;exact this.symm
   subst hbc;have hq:q'=p0:=by have:=HC.out;rw[hb]at this;cases this;rfl
   subst hq;have hca:ba=ca:=by have:=HC.out;rw[hb]at this;cases this;rfl
   subst hca;have e6:wr.cell? ⟨b,0,none⟩=some (.pointer (some ⟨ba,0,none⟩)):=by simp[World.cell?,keep b hbl,hb]
   have hne:∀n,(binOp .neq 117 (.pointer q') (.pointer q')).run prog (wr.drewN n)=.ok (.bool false) (wr.drewN n):=fun n=>by
    have:=neqW q' q' (wr.drewN n) hq1 hq1;simpa using this
   have HL:Hid (wr.heap=((((((w.alloc (.cells #[.pointer (some ⟨mb,0,none⟩)] 107)).alloc (.cells #[.pointer p] 117)).alloc (.cells #[.func (.func kn) #[] cn] 297))).alloc (.cells #[.func (.func 351) #[] #[.pointer (some ⟨w.heap.size,0,none⟩),.pointer (some ⟨w.heap.size+1,0,none⟩),.pointer (some ⟨w.heap.size+2,0,none⟩)]] 294)).alloc (.cells #[.pointer (some ⟨b,0,none⟩)] 117)).heap/\wr.tape=w.tape/\wr.os=w.os/\wr.output=w.output):=by
    refine⟨hwr.trans (qay _ (qay _ H5.out)),?_,?_,?_⟩
    ·rw[hwt,HW5.out];rfl
    ·rw[hwo,HW5.out];rfl
    ·rw[hwu,HW5.out];rfl
   have hz4:w5.heap.size=w.heap.size+3:=hs5';clear hb hr' hwr hwt hwo hwu har hrn keep k5 hq1 hq2 hbl hs5';rw[hz4]at e1 e2|-;clear hz4;go_wp2;go_quiet (fail)
   go_wp2;refine qai 7 (by kernel_rfl) (by kernel_rfl) ?_;simp only[List.take_succ_cons,List.take_zero,List.drop_succ_cons,List.drop_zero];repeat still_step
   refine wpStill_nil ?_;go_wp2_with (go_at_call 283;refine(HK.out _ (by exact⟨HL.out.1,HL.out.2.1,HL.out.2.2.1,HL.out.2.2.2⟩)).mono ?_;intro e w3 hq)
   all_goals first|exact hq|exact⟨rfl,hq⟩|(rcases HQ.out _ _ hq with⟨v,h⟩|⟨ps,h⟩ <;> cases h)|trace_state
  |cons b' r''=>
   have hqp:q'≠p0:=fun e=>by
    obtain⟨_,_,_,e6,_⟩:=hr';have hb'ws:b'∈ws:=by
     cases ws with
     |nil=>rw[e6,show p0=none from HP0.out]at e;cases e
     |cons d ds=>obtain⟨_,_,_,e7,_⟩:=HP0.out;rw[e6,e7]at e;cases e;simp
    have hnd:=HND.out;have e8:pre++c::ws=(a++b::b'::r'')++ws:=by rw[<-har];simp
    rw[e8,List.nodup_append]at hnd;exact hnd.2.2 b' (by simp) b' hb'ws rfl
   have hne:∀n,(binOp .neq 117 (.pointer q') (.pointer p0)).run prog (wr.drewN n)=.ok (.bool true) (wr.drewN n):=fun n=>by
    have:=neqW q' p0 (wr.drewN n) hq1 hq2;rw[this];have:(!(q'==p0))=true:=by simp[hqp]
    rw[this]
   clear hb hr' hwr hwt hwo hwu har hrn keep k5 hq1 hq2 hbl hs5' hqp;go_wp2;go_quiet (fail)
   go_wp2;go_roundw
   case rel=>
    obtain⟨har,hb,hr',hwr,hwt,hwo,hwu⟩:=HR.out;refine⟨a++[b],b'::r'',q',by rw[har];simp,by simp,hr',?_,hwt,hwo,hwu⟩;have:=qcw (w:=w5.alloc (.cells #[.func (.func 351) #[] #[.pointer (some ⟨w.heap.size,0,none⟩),.pointer (some ⟨w.heap.size+1,0,none⟩),.pointer (some ⟨w.heap.size+2,0,none⟩)]] 294)) #[.pointer (some ⟨b,0,none⟩)] 117 0 (.pointer q');have hz:(w5.alloc (.cells #[.func (.func 351) #[] #[.pointer (some ⟨w.heap.size,0,none⟩),.pointer (some ⟨w.heap.size+1,0,none⟩),.pointer (some ⟨w.heap.size+2,0,none⟩)]] 294)).heap.size=w5.heap.size+1:=by simp
    rw[hz]at this;exact(qcv _ _ hwr).trans this
   case measure=>
    obtain⟨har,hb,hr',hwr,hwt,hwo,hwu⟩:=HR.out;rw[e1];have e9:∀n,((wr.drewN n).setCell ⟨w5.heap.size+1,0,none⟩ (.pointer q')).cell? ⟨w5.heap.size+1,0,none⟩=some (.pointer q'):=fun n=>by
     have h:=heap_alloc_new (w:=w5.alloc (.cells #[.func (.func 351) #[] #[.pointer (some ⟨w.heap.size,0,none⟩),.pointer (some ⟨w.heap.size+1,0,none⟩),.pointer (some ⟨w.heap.size+2,0,none⟩)]] 294)) (o:=.cells #[.pointer (some ⟨b,0,none⟩)] 117);have hz:(w5.alloc (.cells #[.func (.func 351) #[] #[.pointer (some ⟨w.heap.size,0,none⟩),.pointer (some ⟨w.heap.size+1,0,none⟩),.pointer (some ⟨w.heap.size+2,0,none⟩)]] 294)).heap.size=w5.heap.size+1:=by simp
     rw[hz,<-hwr]at h;simp[World.cell?,World.setCell,Array.getElem?_modify,h]
    first|rw[e9]|simp only[e9]
    simp only;have m1:=HMu.out _ _ hr';have m2:μ (.pointer (some ⟨b,0,none⟩))=(b::b'::r''++ws).length:=HMu.out _ _ ⟨ba,bc,q',rfl,hb,hr'⟩;rw[m1,m2];simp
end
end Go.Proofs.YtldaocpojcfljaaGreatDoor
