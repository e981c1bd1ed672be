import Derived.Test.YtldaocpojcfljaaGreatDoorC22
import Derived.OwnWalkIn
set_option maxRecDepth 100000
set_option maxHeartbeats 4000000
namespace Go.Proofs.YtldaocpojcfljaaGreatDoor
open Tryz hiding parts
open Go.RowKit Go.Shelf
section
open Sc
theorem Inv.lt {G:Gh} {S:Sub} {m:Mc} {w:World} (i:Inv G S m w) {b:Nat} {o:Obj} (h:G.I b=some o):b<w.heap.size:=by
 have:=i.imm h
 rcases Nat.lt_or_ge b w.heap.size with h|h
 ·exact h
 ·rw [Array.getElem?_eq_none h]at this;cases this
theorem Inv.grown {G:Gh} {S:Sub} {m:Mc} {w w':World} (i:Inv G S m w) {row:Option Nat} (hg:w.grownBy w' row) (hr:∀b,row=some b→G.I b=Option.none∧b∉G.mut∧¬G.F b):Inv G S m w':=by
 have k:∀c,c<w.heap.size→(G.I c≠Option.none∨c∈G.mut∨G.F c)→w'.heap[c]? =w.heap[c]?:=fun c hc h=>hg.block c hc fun e=>by
  obtain⟨h1,h2,h3⟩:=hr c e.symm
  rcases h with h|h|h
  ·exact h h1
  ·exact h2 h
  ·exact h3 h
 have km:∀{c:Nat},c∈G.mut→w'.heap[c]? =w.heap[c]?:=fun {c} hc=>k c (i.ml hc) (.inr (.inl hc))
 refine⟨fun {c x} hc=>by rw [k c (i.lt hc) (.inl (by rw [hc];exact nofun))];exact i.imm hc,i.nd,i.mi,fun h=>Nat.lt_of_lt_of_le (i.ml h) hg.size,i.st.keep (km i.m2),i.ce.keep (km i.m3),i.sl,i.cl,by rw [km i.m1];exact i.ma,by rw [km i.m4];exact i.mp,fun {s c} h=>by rw [km (i.m5 h)];exact i.gl h,i.gd,i.gk,?_,i.el,i.jl,i.jn,i.ji,⟨hg.os.trans i.fo.1,hg.tape.trans i.fo.2.1,hg.output.trans i.fo.2.2⟩,fun {b} h=>⟨by rw [k b (i.ff h).2 (.inr (.inr h))];exact(i.ff h).1,Nat.lt_of_lt_of_le (i.ff h).2 hg.size⟩,i.fm,i.fi⟩
 intro j vs e hj
 obtain⟨fb,sv,pf,h1,h2,h3,h4⟩:=i.en hj
 exact⟨fb,sv,pf,h1,h2,h3,h4.mono (Gh.le.refl _) fun g o n cap hsv=>km (i.m6 (by rw [h1,hsv]))⟩
theorem qcj {w:World} {lo e s:Nat} {v:Value} {n:Nat} {xs:List Value} {a:Addr} {x:Value} (h:w.ownsRow lo e s v n xs) (ha:a.block<lo):(w.setCell a x).ownsRow lo e s v n xs:=by
 refine⟨h.1,?_⟩
 rcases h.2 with h|⟨g,cap,cur,hv,hb,hg,hr⟩
 ·exact .inl h
 ·exact .inr ⟨g,cap,cur,hv,hb,by rw [qaa _ (by omega)];exact hg,hr⟩
theorem qki {w w':World} {lo e s:Nat} {v:Value} {n:Nat} {xs:List Value} (h:w.ownsRow lo e s v n xs) (hl:Lk w w'):w'.ownsRow lo e s v n xs:=by
 refine⟨h.1,?_⟩
 rcases h.2 with h|⟨g,cap,cur,hv,hb,hg,hr⟩
 ·exact .inl h
 ·exact .inr ⟨g,cap,cur,hv,hb,by rw [hl.heap];exact hg,hr⟩
theorem qkr {w w1 w2:World} {row:Option Nat} (hl:Lk w w1) (h:w1.grownBy w2 row):w.grownBy w2 row:=
 ⟨h.os.trans hl.os,h.tape.trans hl.tape,h.output.trans hl.output,by have:=h.size;rw [hl.heap]at this;exact this,fun k hk hr=>by rw [h.block k (by rw [hl.heap];exact hk) hr,hl.heap]⟩
theorem qbf {w w2:World} {row:Option Nat} {o:Obj} (h:(w.alloc o).grownBy w2 row):w.grownBy w2 row:=
 have a:=World.grownBy_alloc w o row
 ⟨h.os.trans a.os,h.tape.trans a.tape,h.output.trans a.output,Nat.le_trans a.size h.size,fun k hk hr=>by rw [h.block k (Nat.lt_of_lt_of_le hk a.size) hr,a.block k hk hr]⟩
def Pushed (c lo:Nat) (sl:Value) (n:Nat) (xs:List Value) (x:Value) (w w':World):Prop:=
 ∃g cap w2,w.grownBy w2 sl.ownBlock∧w2.ownsRow lo 116 1 (.slice (some ⟨g,0,none⟩) (n+1) cap) (n+1) (xs++[x])∧Lk (w2.setCell ⟨c,0,none⟩ (.slice (some ⟨g,0,none⟩) (n+1) cap)) w'
theorem qlq (q c mb sb tx lo n sc:Nat) (sa:Option Addr) (x:Value) (xs:List Value) (t mo:Int) (w:World)
  (h1:w.cell? ⟨q,0,none⟩=some (.pointer (some ⟨mb,0,none⟩))) (h2:w.cell? ⟨mb,0,none⟩=some (.pointer (some ⟨sb,0,none⟩))) (hM:Mt sb t mo 10 w) (h0:0≤t) (ht:t+1≤mo) (hm:mo≤1000000)
  (hc:w.heap[c]? =some (.cells #[.slice sa n sc] 184 (0,0))) (hcs:c≠sb) (hown:w.ownsRow lo 116 1 (.slice sa n sc) n xs) (hlo:lo≤w.heap.size) (hcl:c<lo) (hsl:sb<lo) (hn:n≤1000000):
  Calls prog 282 #[.iface tx x,.pointer (some ⟨q,0,none⟩),.pointer (some ⟨c,0,none⟩)] w fun e w'=>e=.returned (.tuple #[])∧Pushed c lo (.slice sa n sc) n xs (.iface tx x) (w.setCell ⟨sb,0,none⟩ (.int .i64 (t+1))) w':=by
 obtain⟨i0,hi,hz0',hz1',hz2'⟩:=info_parts qet
 have HT:=hZ (qba sb t mo 10 1 w hM h0 ht (by omega) hm)
 have hcc:∀k,((w.setCell ⟨sb,0,none⟩ (.int .i64 (t+1))).drewN k).cell? ⟨c,0,none⟩=some (.slice sa n sc):=fun k=>by
  rw [qa6,qag hcs];simp [World.cell?,hc]
 have HOwn:Hid (∀k,((w.setCell ⟨sb,0,none⟩ (.int .i64 (t+1))).drewN k).ownsRow lo 116 1 (.slice sa n sc) n xs):=fun k=>qki (qcj hown hsl) ⟨rfl,rfl,rfl,rfl⟩
 have HC:=hZ hc
 clear hM hc hown
 go_enter func282,ntmps282
 go_wp2_with (go_at_call 200;refine HT.out.mono ?_;rintro e w2 ⟨rfl,k,rfl⟩;refine Hid.out ?_)
 refine hZ ?_
 go_wp2_with (at_builtin;refine wpList_append_lies _ rfl _ _ 184 rfl lo 116 i0 .nilIface 1 16 underlying184 hi hz0' hz1' hz2' rfl (by decide) _ _ _ rfl ((HOwn.out _).alloc _) ⟨w.heap.size,0,none⟩ 1 1 [.iface tx x] rfl rfl ?c1 ?c2 (by decide) ?c3 ?c4 ?c5 (w.heap.size+1) ?c6 ?_)
 case c1=>exact World.news_of_block (cs:=#[.iface tx x]) (by have:=heap_alloc_new ((w.setCell ⟨sb,0,none⟩ (.int .i64 (t+1))).drewN k) (.cells #[.iface tx x] 116);simpa using this)
 case c2=>intro u hu;simp at hu;rcases hu with rfl;rfl
 case c3=>unfold maxLen;omega
 case c4=>omega
 case c5=>simp;omega
 case c6=>simp
 intro g cap w3 hown3 hgrow3 hat3 hlt3
 refine Hid.out ?_
 have hg3:(w.setCell ⟨sb,0,none⟩ (.int .i64 (t+1))).grownBy w3 (Value.slice sa n sc).ownBlock:=qkr (by exact⟨rfl,rfl,rfl,rfl⟩) (qbf hgrow3)
 have hne:some c≠(Value.slice sa n sc).ownBlock:=fun e=>by
  have:=((HOwn.out 0).lt c e.symm).1
  omega
 have hc3:w3.heap[c]? =some (.cells #[.slice sa n sc] 184 (0,0)):=by
  rw [hg3.block c (by simp;omega) hne,qaa (a:=⟨sb,0,none⟩) _ hcs];exact HC.out
 have hc4:w3.cell? ⟨c,0,none⟩=some (.slice sa n sc):=by simp [World.cell?,hc3]
 have hfz:w3.frozen? ⟨c,0,none⟩=false:=by simp [World.frozen?,hc3]
 have HOwn3:=hZ hown3
 have HG3:=hZ hg3
 clear hown3 hgrow3 hat3 hlt3 hg3 hc3 hne
 refine hZ ?_
 go_wp2
 go_end0
 exact⟨rfl,g,cap,w3,HG3.out,HOwn3.out,⟨rfl,rfl,rfl,rfl⟩⟩
theorem qit (q c mb sb tx:Nat) (x:Value) (t:Int) (w:World)
  (h1:w.cell? ⟨q,0,none⟩=some (.pointer (some ⟨mb,0,none⟩))) (h2:w.cell? ⟨mb,0,none⟩=some (.pointer (some ⟨sb,0,none⟩))) (hM:Mt sb t t 10 w) (h0:0≤t) (hm:t≤1000000):
  Calls prog 282 #[.iface tx x,.pointer (some ⟨q,0,none⟩),.pointer (some ⟨c,0,none⟩)] w fun e w'=>e=.panicked (stopP (stopV 10))∧Below w.heap.size (w.setCell ⟨sb,0,none⟩ (.int .i64 t)) w':=by
 have HT:=hZ (qa1 sb t t 10 1 w hM h0 (by omega) (by omega) (by omega) hm)
 clear hM
 go_enter func282,ntmps282
 go_wp2_with (go_at_call 200;refine HT.out.mono ?_;rintro e w2 ⟨rfl,hb⟩)
 exact⟨rfl,rfl,hb⟩
theorem qiu (q c mb sb tx:Nat) (x:Value) (t:Int) (w:World)
  (h1:w.cell? ⟨q,0,none⟩=some (.pointer (some ⟨mb,0,none⟩))) (h2:w.cell? ⟨mb,0,none⟩=some (.pointer (some ⟨sb,0,none⟩))) (hM:Mt sb t t 10 w) (h0:0≤t) (hm:t≤1000000):
  Calls prog 209 #[.iface tx x,.pointer (some ⟨q,0,none⟩),.pointer (some ⟨c,0,none⟩)] w fun e w'=>e=.panicked (stopP (stopV 10))∧Below w.heap.size (w.setCell ⟨sb,0,none⟩ (.int .i64 t)) w':=by
 have HT:=hZ (qa1 sb t t 10 1 w hM h0 (by omega) (by omega) (by omega) hm)
 clear hM
 go_enter func209,ntmps209
 go_wp2_with (go_at_call 200;refine HT.out.mono ?_;rintro e w2 ⟨rfl,hb⟩)
 exact⟨rfl,rfl,hb⟩
theorem qhe (q c mb sb cb tx:Nat) (x:Value) (t mo u:Int) (w:World)
  (h1:w.cell? ⟨q,0,none⟩=some (.pointer (some ⟨mb,0,none⟩))) (h2:w.cell? ⟨mb,0,none⟩=some (.pointer (some ⟨sb,0,none⟩))) (h3:w.cell? ⟨mb,1,none⟩=some (.pointer (some ⟨cb,0,none⟩))) (hM:Mt sb t mo 10 w) (h0:0≤t) (ht:t+1≤mo) (hm:mo≤1000000)
  (hC:Mt cb u u 11 w) (hu0:0≤u) (hu:u≤1000000) (hqs:q≠sb) (hms:mb≠sb) (hcs:cb≠sb):
  Calls prog 209 #[.iface tx x,.pointer (some ⟨q,0,none⟩),.pointer (some ⟨c,0,none⟩)] w fun e w'=>e=.panicked (stopP (stopV 11))∧Below w.heap.size ((w.setCell ⟨sb,0,none⟩ (.int .i64 (t+1))).setCell ⟨cb,0,none⟩ (.int .i64 u)) w':=by
 have HT:=hZ (qba sb t mo 10 1 w hM h0 ht (by omega) hm)
 have HU:Hid (∀k,Calls prog 200 #[.pointer (some ⟨cb,0,none⟩),.int .i64 1] ((w.setCell ⟨sb,0,none⟩ (.int .i64 (t+1))).drewN k) fun e w'=>e=.panicked (stopP (stopV 11))∧Below ((w.setCell ⟨sb,0,none⟩ (.int .i64 (t+1))).drewN k).heap.size (((w.setCell ⟨sb,0,none⟩ (.int .i64 (t+1))).drewN k).setCell ⟨cb,0,none⟩ (.int .i64 u)) w'):=fun k=>
  qa1 cb u u 11 1 _ (by unfold Mt at*;show(w.setCell ⟨sb,0,none⟩ (.int .i64 (t+1))).heap[cb]? =_;rw [qaa (a:=⟨sb,0,none⟩) _ hcs];exact hC) hu0 (by omega) (by omega) (by omega) hu
 have hq1:∀k,((w.setCell ⟨sb,0,none⟩ (.int .i64 (t+1))).drewN k).cell? ⟨q,0,none⟩=some (.pointer (some ⟨mb,0,none⟩)):=fun k=>by rw [qa6,qag hqs];exact h1
 have hq2:∀k,((w.setCell ⟨sb,0,none⟩ (.int .i64 (t+1))).drewN k).cell? ⟨mb,1,none⟩=some (.pointer (some ⟨cb,0,none⟩)):=fun k=>by rw [qa6,qag hms];exact h3
 clear hM hC
 go_enter func209,ntmps209
 go_wp2_with (go_at_call 200;refine HT.out.mono ?_;rintro e w2 ⟨rfl,k,rfl⟩;refine Hid.out ?_)
 refine hZ ?_
 go_wp2_with (go_at_call 200;refine(HU.out k).mono ?_;rintro e w2 ⟨rfl,hb⟩)
 exact⟨rfl,rfl,hb.os,hb.tape,hb.output,hb.size,fun j hj=>hb.block j (by show j<(w.setCell ⟨sb,0,none⟩ (.int .i64 (t+1))).heap.size;rw [qaf];exact hj)⟩
theorem qlr (q c mb sb cb tx lo n sc:Nat) (sa:Option Addr) (x:Value) (xs:List Value) (t mo u uo:Int) (w:World)
  (h1:w.cell? ⟨q,0,none⟩=some (.pointer (some ⟨mb,0,none⟩))) (h2:w.cell? ⟨mb,0,none⟩=some (.pointer (some ⟨sb,0,none⟩))) (h3:w.cell? ⟨mb,1,none⟩=some (.pointer (some ⟨cb,0,none⟩))) (hM:Mt sb t mo 10 w) (h0:0≤t) (ht:t+1≤mo) (hm:mo≤1000000)
  (hC:Mt cb u uo 11 w) (hu0:0≤u) (hu:u+1≤uo) (huo:uo≤1000000) (hqs:q≠sb) (hms:mb≠sb) (hbs:cb≠sb)
  (hc:w.heap[c]? =some (.cells #[.slice sa n sc] 184 (0,0))) (hcs:c≠sb) (hcb:c≠cb) (hown:w.ownsRow lo 116 1 (.slice sa n sc) n xs) (hlo:lo≤w.heap.size) (hcl:c<lo) (hsl:sb<lo) (hbl:cb<lo) (hn:n≤1000000):
  Calls prog 209 #[.iface tx x,.pointer (some ⟨q,0,none⟩),.pointer (some ⟨c,0,none⟩)] w fun e w'=>e=.returned (.tuple #[])∧Pushed c lo (.slice sa n sc) n xs (.iface tx x) ((w.setCell ⟨sb,0,none⟩ (.int .i64 (t+1))).setCell ⟨cb,0,none⟩ (.int .i64 (u+1))) w':=by
 obtain⟨i0,hi,hz0',hz1',hz2'⟩:=info_parts qet
 have HT:=hZ (qba sb t mo 10 1 w hM h0 ht (by omega) hm)
 have HU:Hid (∀k,Calls prog 200 #[.pointer (some ⟨cb,0,none⟩),.int .i64 1] ((w.setCell ⟨sb,0,none⟩ (.int .i64 (t+1))).drewN k) fun e w'=>e=.returned (.tuple #[])∧∃k',w'=(((w.setCell ⟨sb,0,none⟩ (.int .i64 (t+1))).drewN k).setCell ⟨cb,0,none⟩ (.int .i64 (u+1))).drewN k'):=fun k=>
  qba cb u uo 11 1 _ (by unfold Mt at*;show(w.setCell ⟨sb,0,none⟩ (.int .i64 (t+1))).heap[cb]? =_;rw [qaa (a:=⟨sb,0,none⟩) _ hbs];exact hC) hu0 (by omega) (by omega) huo
 have hq1:∀k,((w.setCell ⟨sb,0,none⟩ (.int .i64 (t+1))).drewN k).cell? ⟨q,0,none⟩=some (.pointer (some ⟨mb,0,none⟩)):=fun k=>by rw [qa6,qag hqs];exact h1
 have hq2:∀k,((w.setCell ⟨sb,0,none⟩ (.int .i64 (t+1))).drewN k).cell? ⟨mb,1,none⟩=some (.pointer (some ⟨cb,0,none⟩)):=fun k=>by rw [qa6,qag hms];exact h3
 have hcc:∀k k',((((w.setCell ⟨sb,0,none⟩ (.int .i64 (t+1))).drewN k).setCell ⟨cb,0,none⟩ (.int .i64 (u+1))).drewN k').cell? ⟨c,0,none⟩=some (.slice sa n sc):=fun k k'=>by
  rw [qa6,qag hcb,qa6,qag hcs];simp [World.cell?,hc]
 have HOwn:Hid (∀k k',((((w.setCell ⟨sb,0,none⟩ (.int .i64 (t+1))).drewN k).setCell ⟨cb,0,none⟩ (.int .i64 (u+1))).drewN k').ownsRow lo 116 1 (.slice sa n sc) n xs):=fun k k'=>qki (qcj (qki (qcj hown hsl) (by exact⟨rfl,rfl,rfl,rfl⟩)) hbl) (by exact⟨rfl,rfl,rfl,rfl⟩)
 have HC:=hZ hc
 clear hM hC hc hown
 go_enter func209,ntmps209
 go_wp2_with (go_at_call 200;refine HT.out.mono ?_;rintro e w2 ⟨rfl,k,rfl⟩;refine Hid.out ?_)
 refine hZ ?_
 go_wp2_with (go_at_call 200;refine(HU.out k).mono ?_;rintro e w2 ⟨rfl,k',rfl⟩;refine Hid.out ?_)
 refine hZ ?_
 go_wp2_with (at_builtin;refine wpList_append_lies _ rfl _ _ 184 rfl lo 116 i0 .nilIface 1 16 underlying184 hi hz0' hz1' hz2' rfl (by decide) _ _ _ rfl ((HOwn.out _ _).alloc _) ⟨w.heap.size,0,none⟩ 1 1 [.iface tx x] rfl rfl ?c1 ?c2 (by decide) ?c3 ?c4 ?c5 (w.heap.size+1) ?c6 ?_)
 case c1=>exact World.news_of_block (cs:=#[.iface tx x]) (by have:=heap_alloc_new ((((w.setCell ⟨sb,0,none⟩ (.int .i64 (t+1))).drewN k).setCell ⟨cb,0,none⟩ (.int .i64 (u+1))).drewN k') (.cells #[.iface tx x] 116);simpa using this)
 case c2=>intro u hu;simp at hu;rcases hu with rfl;rfl
 case c3=>unfold maxLen;omega
 case c4=>omega
 case c5=>simp;omega
 case c6=>simp
 intro g cap w3 hown3 hgrow3 hat3 hlt3
 refine Hid.out ?_
 have hg3:((w.setCell ⟨sb,0,none⟩ (.int .i64 (t+1))).setCell ⟨cb,0,none⟩ (.int .i64 (u+1))).grownBy w3 (Value.slice sa n sc).ownBlock:=qkr (by exact⟨rfl,rfl,rfl,rfl⟩) (qbf hgrow3)
 have hne:some c≠(Value.slice sa n sc).ownBlock:=fun e=>by
  have:=((HOwn.out 0 0).lt c e.symm).1
  omega
 have hc3:w3.heap[c]? =some (.cells #[.slice sa n sc] 184 (0,0)):=by
  rw [hg3.block c (by simp;omega) hne,qaa (a:=⟨cb,0,none⟩) _ hcb,qaa (a:=⟨sb,0,none⟩) _ hcs];exact HC.out
 have hc4:w3.cell? ⟨c,0,none⟩=some (.slice sa n sc):=by simp [World.cell?,hc3]
 have hfz:w3.frozen? ⟨c,0,none⟩=false:=by simp [World.frozen?,hc3]
 have HOwn3:=hZ hown3
 have HG3:=hZ hg3
 clear hown3 hgrow3 hat3 hlt3 hg3 hc3 hne
 refine hZ ?_
 go_wp2
 go_end0
 exact⟨rfl,g,cap,w3,HG3.out,HOwn3.out,⟨rfl,rfl,rfl,rfl⟩⟩
end
section
open Sc
def oneMore (S:Sub) (b:Bool) (m:Mc):Except Nat Unit×Mc:=match Sc.step S m with
 |(.error e,m)=>(.error e,m)
 |(.ok _,m)=>if b then Sc.cell S m else(.ok (),m)
def gath (acc:List Vl):Except Nat (List Vl)×Mc→Except Nat (List Vl)×Mc
 |(.error e,m)=>(.error e,m)
 |(.ok l,m)=>(.ok (acc++l),m)
theorem gath_ok {S:Sub} {b:Bool} {acc:List Vl} {id:Nat} {a d:Vl} {m m':Mc} {u:Unit} (h:oneMore S b m=(.ok u,m')):gath acc (membersOf S b (.pair id a d) m)=gath (acc++[a]) (membersOf S b d m'):=by
 unfold oneMore at h
 simp only [membersOf]
 rcases hs:Sc.step S m with⟨e|u1,m1⟩
 ·rw [hs]at h;cases h
 ·rw [hs]at h
  simp only at h⊢
  have hx:(if b=true then Sc.cell S m1 else(.ok (),m1))=((.ok u,m'):Except Nat Unit×Mc):=h
  rw [hx]
  simp only
  rcases membersOf S b d m' with⟨e|l,m2⟩
  ·rfl
  ·simp [gath]
theorem qsm {S:Sub} {b:Bool} {acc:List Vl} {id:Nat} {a d:Vl} {m m':Mc} {e:Nat} (h:oneMore S b m=(.error e,m')):gath acc (membersOf S b (.pair id a d) m)=(.error e,m'):=by
 unfold oneMore at h
 simp only [membersOf]
 rcases hs:Sc.step S m with⟨e|u1,m1⟩
 ·rw [hs]at h;cases h;rfl
 ·rw [hs]at h
  simp only at h⊢
  have hx:(if b=true then Sc.cell S m1 else(.ok (),m1))=((.error e,m'):Except Nat Unit×Mc):=h
  rw [hx]
  rfl
def RowW (H:Gh) (c lo:Nat) (acc:List Vl) (w:World):Prop:=∃sa n sc xs,w.heap[c]? =some (.cells #[.slice sa n sc] 184 (0,0))∧w.ownsRow lo 116 1 (.slice sa n sc) n xs∧VsRep H acc xs∧lo≤w.heap.size
def Loose (H:Gh) (c:Nat):Prop:=∀b,c≤b→H.I b=none∧b∉H.mut∧¬H.F b
theorem Loose.lt {H:Gh} {c:Nat} (h:Loose H c) {b:Nat} (hb:b∈H.mut):b<c:=by
 rcases Nat.lt_or_ge b c with h1|h1
 ·exact h1
 ·exact absurd hb (h b h1).2.1
theorem Inv.looses {G:Gh} {S:Sub} {m:Mc} {w:World} (i:Inv G S m w):Loose G w.heap.size:=fun _b hb=>
 ⟨i.fresh hb,fun h=>Nat.lt_irrefl _ (Nat.lt_of_lt_of_le (i.ml h) hb),fun h=>Nat.lt_irrefl _ (Nat.lt_of_lt_of_le (i.ff h).2 hb)⟩
theorem qfk {H:Gh} {S:Sub} {m:Mc} {W w':World} {c lo n sc:Nat} {sa:Option Addr} {xs:List Value} {acc:List Vl} {v:Vl} {x:Value} (i:Inv H S m W) (hL:Loose H c) (hc:W.heap[c]? =some (.cells #[.slice sa n sc] 184 (0,0))) (ho:W.ownsRow lo 116 1 (.slice sa n sc) n xs)
  (hcl:c<lo) (hlo:lo≤W.heap.size) (hvs:VsRep H acc xs) (hv:VRep H v x) (hp:Pushed c lo (.slice sa n sc) n xs x W w'):Inv H S m w'∧RowW H c lo (acc++[v]) w':=by
 obtain⟨g,cap,w2,hg,hown,hl⟩:=hp
 have i2:=i.grown hg fun b hb=>hL b (by have:=(ho.lt b hb).1;omega)
 obtain⟨l1,l2,l3⟩:=hL c (Nat.le_refl _)
 have hc2:w2.heap[c]? =some (.cells #[.slice sa n sc] 184 (0,0)):=by
  rw [hg.block c (by omega) fun e=>by have:=(ho.lt c e.symm).1;omega];exact hc
 refine⟨Inv.lk hl (i2.loose l1 l2 l3),_,_,_,_,by rw [hl.heap];exact qbc hc2,qki (qcj hown hcl) hl,hvs.snoc hv,?_⟩
 rw [hl.heap,qaf];exact Nat.le_trans hlo hg.size
def VisOk (H:Gh) (S:Sub) (c lo:Nat) (acc:List Vl) (v:Vl) (rv:Except Nat Unit×Mc) (e:Ending) (w2:World):Prop:=
 (∃u m',rv=(.ok u,m')∧e=.returned (.tuple #[])∧Inv H S m' w2∧RowW H c lo (acc++[v]) w2∧acc.length+1≤m'.steps)∨(∃vd m',rv=(.error vd,m')∧e=.panicked (stopP (stopW vd m'))∧Cnt H S m' w2)
theorem qqn {H:Gh} {S:Sub} {m:Mc} {w:World} {c lo r t0:Nat} {y0:Value} {acc:List Vl} {v:Vl} (i:Inv H S m w) (hr:H.mbox r) (hL:Loose H c) (hcl:c<lo) (hrow:RowW H c lo acc w) (hal:acc.length≤m.steps) (hv:VRep H v (.iface t0 y0)):
  Calls prog 282 (#[.iface t0 y0]++#[bp r,bp c]) w (VisOk H S c lo acc v (oneMore S false m)):=by
 have hfu:(m.steps:Int)≤S.fuel:=i.sl.1
 have hf2:S.fuel≤20000:=i.sl.2
 have c1:w.cell? ⟨r,0,none⟩=some (.pointer (some ⟨H.mb,0,none⟩)):=by rw [i.cell hr];rfl
 have hsl:=hL.lt i.m2
 obtain⟨sa,n,sc,xs,hc,ho,hvs,hlo⟩:=hrow
 have hn:n=acc.length:=by have:=ho.1;have:=hvs.1;omega
 by_cases hst:(m.steps:Int)<S.fuel
 ·refine Calls.mono (qlq r c H.mb H.sb t0 lo n sc sa y0 xs m.steps S.fuel w c1 i.mb0 i.st (by omega) (by omega) (by omega) hc (by omega) ho hlo hcl (by omega) (by omega)) ?_
  rintro e w2 ⟨rfl,hp⟩
  have is:=i.steps (m.steps+1) (by push_cast;omega)
  have is:Inv H S {m with steps:=m.steps+1} (w.setCell ⟨H.sb,0,none⟩ (.int .i64 ((m.steps:Int)+1))):=by simpa using is
  obtain⟨i2,r2⟩:=qfk is hL (by rw [qaa (a:=⟨H.sb,0,none⟩) _ (show c≠H.sb by omega)];exact hc) (qcj ho (show H.sb<lo by omega)) hcl (by rw [qaf];exact hlo) hvs hv hp
  exact .inl ⟨(),_,by simp [oneMore,Sc.step,hst],rfl,i2,r2,by simp;omega⟩
 ·have hm:(m.steps:Int)=S.fuel:=by omega
  have hM:Mt H.sb m.steps S.fuel 10 w:=i.st
  rw [←hm]at hM
  refine Calls.mono (qit r c H.mb H.sb t0 y0 m.steps w c1 i.mb0 hM (by omega) (by omega)) ?_
  rintro e w2 ⟨rfl,hb2⟩
  have i1:=i.steps m.steps (by omega)
  exact .inr ⟨10,m,by simp [oneMore,Sc.step,hst],rfl,i1.cntB (by rw [qaf];exact Nat.le_refl _) hb2⟩
theorem qqo {H:Gh} {S:Sub} {m:Mc} {w:World} {c lo r t0:Nat} {y0:Value} {acc:List Vl} {v:Vl} (i:Inv H S m w) (hr:H.mbox r) (hL:Loose H c) (hcl:c<lo) (hrow:RowW H c lo acc w) (hal:acc.length≤m.steps) (hv:VRep H v (.iface t0 y0)):
  Calls prog 209 (#[.iface t0 y0]++#[bp r,bp c]) w (VisOk H S c lo acc v (oneMore S true m)):=by
 have hfu:(m.steps:Int)≤S.fuel:=i.sl.1
 have hf2:S.fuel≤20000:=i.sl.2
 have hqu:(m.cells:Int)≤S.quota:=i.cl.1
 have hq2:S.quota≤5000:=i.cl.2
 have c1:w.cell? ⟨r,0,none⟩=some (.pointer (some ⟨H.mb,0,none⟩)):=by rw [i.cell hr];rfl
 have hsl:=hL.lt i.m2
 have hbl:=hL.lt i.m3
 have hrs:r≠H.sb:=fun e=>by have h1:=i.mi i.m2;have h2:H.I r=some _:=hr;rw [e,h1]at h2;cases h2
 obtain⟨sa,n,sc,xs,hc,ho,hvs,hlo⟩:=hrow
 have hn:n=acc.length:=by have:=ho.1;have:=hvs.1;omega
 by_cases hst:(m.steps:Int)<S.fuel
 ·have is:=i.steps (m.steps+1) (by push_cast;omega)
  have is:Inv H S {m with steps:=m.steps+1} (w.setCell ⟨H.sb,0,none⟩ (.int .i64 ((m.steps:Int)+1))):=by simpa using is
  by_cases hce:(m.cells:Int)<S.quota
  ·refine Calls.mono (qlr r c H.mb H.sb H.cb t0 lo n sc sa y0 xs m.steps S.fuel m.cells S.quota w c1 i.mb0 i.mb1 i.st (by omega) (by omega) (by omega) i.ce (by omega) (by omega) (by omega) hrs i.sb_mb.symm i.cb_sb hc (by omega) (by omega) ho hlo hcl (by omega) (by omega) (by omega)) ?_
   rintro e w2 ⟨rfl,hp⟩
   have ic:=is.cells (m.cells+1) (by push_cast;omega)
   have ic:Inv H S {m with steps:=m.steps+1,cells:=m.cells+1} ((w.setCell ⟨H.sb,0,none⟩ (.int .i64 ((m.steps:Int)+1))).setCell ⟨H.cb,0,none⟩ (.int .i64 ((m.cells:Int)+1))):=by simpa using ic
   obtain⟨i2,r2⟩:=qfk ic hL (by rw [qaa (a:=⟨H.cb,0,none⟩) _ (show c≠H.cb by omega),qaa (a:=⟨H.sb,0,none⟩) _ (show c≠H.sb by omega)];exact hc) (qcj (qcj ho (show H.sb<lo by omega)) (show H.cb<lo by omega)) hcl (by rw [qaf,qaf];exact hlo) hvs hv hp
   exact .inl ⟨(),_,by simp [oneMore,Sc.step,hst,Sc.cell,hce],rfl,i2,r2,by simp;omega⟩
  ·have hm:(m.cells:Int)=S.quota:=by omega
   have hM:Mt H.cb m.cells S.quota 11 w:=i.ce
   rw [←hm]at hM
   refine Calls.mono (qhe r c H.mb H.sb H.cb t0 y0 m.steps S.fuel m.cells w c1 i.mb0 i.mb1 i.st (by omega) (by omega) (by omega) hM (by omega) (by omega) hrs i.sb_mb.symm i.cb_sb) ?_
   rintro e w2 ⟨rfl,hb2⟩
   have i1:=is.cells m.cells (by show(m.cells:Int)≤S.quota;omega)
   exact .inr ⟨11,{m with steps:=m.steps+1},by simp [oneMore,Sc.step,hst,Sc.cell,hce],rfl,i1.cntB (by rw [qaf,qaf];exact Nat.le_refl _) hb2⟩
 ·have hm:(m.steps:Int)=S.fuel:=by omega
  have hM:Mt H.sb m.steps S.fuel 10 w:=i.st
  rw [←hm]at hM
  refine Calls.mono (qiu r c H.mb H.sb t0 y0 m.steps w c1 i.mb0 hM (by omega) (by omega)) ?_
  rintro e w2 ⟨rfl,hb2⟩
  have i1:=i.steps m.steps (by omega)
  exact .inr ⟨10,m,by simp [oneMore,Sc.step,hst],rfl,i1.cntB (by rw [qaf];exact Nat.le_refl _) hb2⟩
end
section
open Sc
theorem eg209:Eg 209:=qak func209 (by kernel_rfl) (by kernel_rfl)
theorem eg282:Eg 282:=qak func282 (by kernel_rfl) (by kernel_rfl)
def GathOk (H:Gh) (S:Sub) (c lo:Nat) (rv:Except Nat (List Vl)×Mc) (e:Ending) (w2:World):Prop:=
 (∃l m',rv=(.ok l,m')∧e=.returned (.tuple #[])∧Inv H S m' w2∧RowW H c lo l w2∧l.length≤m'.steps)∨(∃vd m',rv=(.error vd,m')∧e=.panicked (stopP (stopW vd m'))∧Cnt H S m' w2)
def GathR (H:Gh) (S:Sub) (c lo:Nat) (b:Bool) (rv:Except Nat (List Vl)×Mc) (k:Nat) (x:Value) (w:World):Prop:=
 ∃(v:Vl) (m:Mc) (acc:List Vl),SizeOf.sizeOf v≤k∧acc.length≤m.steps∧Inv H S m w∧VRep H v x∧RowW H c lo acc w∧rv=gath acc (membersOf S b v m)
theorem qhu {H:Gh} {S:Sub} {c lo r f:Nat} {b:Bool} (ef:Eg f)
  (hvis:∀(m:Mc) (w:World) (t0:Nat) (y0:Value) (acc:List Vl) (v:Vl),Inv H S m w→RowW H c lo acc w→acc.length≤m.steps→VRep H v (.iface t0 y0)→Calls prog f (#[.iface t0 y0]++#[bp r,bp c]) w (VisOk H S c lo acc v (oneMore S b m)))
  (v:Vl) (m:Mc) (x:Value) (w:World) (i:Inv H S m w) (hv:VRep H v x) (hrow:RowW H c lo [] w):
  Calls prog 206 #[x,.func (.func f) #[] #[bp r,bp c]] w (GathOk H S c lo (membersOf S b v m)):=by
 have h0:membersOf S b v m=gath [] (membersOf S b v m):=by rcases membersOf S b v m with⟨e|l,m'⟩ <;> rfl
 generalize hrv:membersOf S b v m=rv
 rw [hrv]at h0
 refine qpk f #[bp r,bp c] ef (GathR H S c lo b rv) _ (SizeOf.sizeOf v) x w ⟨v,m,[],Nat.le_refl _,Nat.zero_le _,i,hv,hrow,by rw [hrv];exact h0⟩ ?_
 clear hrv h0 i hv hrow
 rintro k x w1 ⟨v,m,acc,hk,hcm,i,hv,hrow,hrv⟩
 have other:∀t y,x=.iface t y→t≠246→t≠186→membersOf S b v m=(.error 6,m)→(∃t y,t≠246∧t≠186∧x=.iface t y∧∀o,GathOk H S c lo rv (.panicked (stopP (stopV 6))) (w1.alloc o)):=fun t y e h1 h2 h3=>by
  rw [h3]at hrv
  exact⟨t,y,h1,h2,e,fun o=>.inr ⟨6,m,hrv,rfl,i.cntB (Nat.le_refl _) ((Below.refl _ _).alloc (Nat.le_refl _) _)⟩⟩
 cases hv with
 |pair id p v u x y hj hb h1 h2=>
  left
  obtain⟨t0,y0,rfl⟩:=h1.form
  obtain⟨t1,y1,rfl⟩:=h2.form
  refine⟨p,t0,y0,t1,y1,SizeOf.sizeOf u,by simp at hk;omega,rfl,by rw [i.cell hb];rfl,?_⟩
  refine Calls.mono (hvis m w1 t0 y0 acc v i hrow hcm h1) ?_
  rintro e w2 (⟨uu,m',h3,rfl,i2,hr2,hst⟩|⟨vd,m',h3,rfl,hcn⟩)
  ·rw [gath_ok h3]at hrv
   exact .inl ⟨rfl,by rw [i2.cell hb];rfl,u,m',acc++[v],Nat.le_refl _,by simpa using hst,i2,h2,hr2,hrv⟩
  ·rw [qsm h3]at hrv
   exact .inr ⟨_,rfl,.inr ⟨vd,m',hrv,rfl,hcn⟩⟩
 |nil=>
  right;left
  exact⟨rfl,.inl ⟨acc,m,by rw [hrv];simp [membersOf,gath],rfl,i,hrow,hcm⟩⟩
 |proc v b h=>right;right;exact other _ _ rfl (by decide) (by decide) (by cases h <;> rfl)
 |_=>right;right;exact other _ _ rfl (by decide) (by decide) rfl
theorem qti (r tx ty:Nat) (x y:Value) (w:World) (Q:Ending→World→Prop) (hQ:∀e w,Q e w→(∃t y,e=.returned (.iface t y))∨∃ps,e=.panicked ps)
  (hE:∀w',Lk (w.alloc (.cells #[.slice none 0 0] 184)) w'→Calls prog 206 #[.iface tx x,.func (.func 209) #[] #[.pointer (some ⟨r,0,none⟩),.pointer (some ⟨w.heap.size,0,none⟩)]] w' fun e w2=>(∃sa n sc,e=.returned (.tuple #[])∧w2.cell? ⟨w.heap.size,0,none⟩=some (.slice sa n sc)∧∀w3,Lk w2 w3→Calls prog 91 #[.slice sa n sc,.iface ty y] w3 Q)∨(∃ps,e=.panicked ps∧Q e w2)):
  Calls prog 208 #[.iface tx x,.iface ty y,.pointer (some ⟨r,0,none⟩)] w Q:=by
 have HE:=hZ hE
 have HQ:=hZ hQ
 clear hE hQ
 go_enter func208,ntmps208
 go_wp2_with (go_at_call 206;refine(HE.out _ (by exact⟨rfl,rfl,rfl,rfl⟩)).mono ?_;rintro e w2 (⟨sa,n,sc,rfl,hc,hq⟩|⟨ps,rfl,hq⟩);all_goals have HK:=hZ hq;clear hq;refine Hid.out ?_)
 ·refine hZ ?_
  go_wp2_with (go_at_call 91;refine(HK.out _ (by exact⟨rfl,rfl,rfl,rfl⟩)).mono ?_;intro e w2 hq;rcases HQ.out _ _ hq with⟨t,y,rfl⟩|⟨ps,rfl⟩)
  ·go_wp2
   exact hq
  ·exact⟨rfl,hq⟩
 ·exact⟨rfl,HK.out⟩
end
end Go.Proofs.YtldaocpojcfljaaGreatDoor
