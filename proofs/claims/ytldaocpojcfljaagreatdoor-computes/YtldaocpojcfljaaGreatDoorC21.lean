import Derived.Test.YtldaocpojcfljaaGreatDoorC20
set_option maxRecDepth 100000
set_option maxHeartbeats 4000000
namespace Go.Proofs.YtldaocpojcfljaaGreatDoor
open Tryz hiding parts
open Go.RowKit Go.Shelf
section
open Sc
theorem VRep.as271 {G:Gh} {v:Vl} {t:Nat} {y:Value} (h:VRep G v (.iface t y)):(t=246∧∃b:Nat,y=bp b∧∃id v0 v1,v=.pair id v0 v1)∨(t≠246∧Kd.ok .pair v=false):=by
 cases h with
 |pair id b v0 v1 x0 x1 hj hb h1 h2=>exact .inl ⟨rfl,b,rfl,id,v0,v1,rfl⟩
 |proc v b h=>right;refine⟨by decide,?_⟩;cases h <;> rfl
 |_=>exact .inr ⟨by decide,rfl⟩
theorem qdz {S:Sub} {n:Nat} (p:Pm) (f:Nat) (cw:Array Value) (ef:Eg f) (hk0:p.kinds=[.pair]) (hg0:p.grant=0) (hil:p.isList=false) (hc:Plain S p)
  (G:Gh) (m:Mc) (w:World) (al:List Vl) (k:List Fr) (q ku tq:Nat) (cu:Array Value) (sa:Option Addr) (sn sc:Nat)
  (hwork:∀(H:Gh) (w':World) (v:Vl) (b:Nat),G.up H→Inv H S m w'→VRep H v (.iface 246 (bp b))→Calls prog f (#[bp b]++cw) w' (WorkOk H S (value S m p [v])))
  (i:Inv G S m w) (hq:G.I q=some (.cells #[.func (.func f) #[] cw] tq (0,0))) (hk:FRep G k (.func (.func ku) #[] cu)) (hr:LRow G w.heap (.slice sa sn sc) al) (he:Ct.ended (go S (n+1) (.ap (.prim p) al k) m).1=true):
  Calls prog 271 (#[.slice sa sn sc,.func (.func ku) #[] cu]++#[bp q]) w (PostS G S (n+1) (.ap (.prim p) al k) m):=by
 have hsn:sn=al.length:=by
  rcases hr with⟨rfl,a,cap,h⟩|⟨g,o,cap,arr,h,_⟩
  ·cases h;rfl
  ·cases h;rfl
 by_cases hlen:sn=1
 ·subst hlen
  obtain⟨v,rfl⟩:∃v,al=[v]:=by
   match al,hsn with
   | [a],_=>exact⟨a,rfl⟩
  obtain⟨g,o,arr,x,rfl,hc1,hc2,hg,hgm,hgi,hx1,hv⟩:=hr.one
  have i1:=i.fix hgm hgi hg
  have U1:G.up (G.add g (.cells arr 116)):=⟨Gh.le_add hgi,rfl,rfl⟩
  obtain⟨t,y,rfl⟩:=hv.form
  obtain⟨kk,ck,hku,egu⟩:=hk.isF
  cases hku
  have qap:∀(w':World),(∀{b:Nat} {ob:Obj},(G.add g (.cells arr 116)).I b=some ob→w'.heap[b]? =some ob)→w'.cell? ⟨g,o,none⟩=some (.iface t y)∧w'.cell? ⟨q,0,none⟩=some (.func (.func f) #[] cw):=fun w' hw'=>by
   refine⟨?_,?_⟩
   ·simp only [World.cell?,hw' (Gh.add_at G g (.cells arr 116))];simpa using hx1
   ·simp [World.cell?,hw' (U1.le.I hq)]
  rcases hv.as271 with⟨rfl,b,rfl,hsh⟩|⟨ht,hko⟩
  ·have hko:Kd.ok .pair v=true:=by
    cases hv with
    |_=>rfl
   have hcar:Sc.next S (.ap (.prim p) [v] k) m=(match value S m p [v]with
     |(.error e,m)=>(.stop e,m)
     |(.ok v,m)=>(.ret v k,m)):=by
    show carry S (.prim p) [v] k m=_
    rw [hc];simp [hk0,hg0,hil,hko] <;> rfl
   refine Calls.mono (R:=PostS (G.add g (.cells arr 116)) S (n+1) (.ap (.prim p) [v] k) m) ?_ (fun e w h=>h.up U1)
   refine qoj g o sc q f ku b cw cu w _ ef egu PostS.ends (fun v w' p=>qap w' fun hb=>p.keeps hb) (qap w fun hb=>i1.imm hb).1 (qap w fun hb=>i1.imm hb).2 ?_
   intro w' hw
   refine Calls.mono (hwork _ w' v b U1 (Inv.lk hw i1) (hv.mono U1.le)) ?_
   rintro e w1 (⟨H,v',m',x',e1,rfl,hu,hi,hx'⟩|⟨vd,m',e1,rfl,hcn⟩)
   ·rw [e1]at hcar
    rw [qan hcar rfl]at he
    obtain⟨t',y',rfl⟩:=hx'.form
    refine .inl ⟨t',y',rfl,qap w1 fun hb=>hi.imm (hu.le.I hb),fun w2 hw2=>?_⟩
    exact Calls.mono ((qav S n).2 H m' w2 v' k _ ku cu (Inv.lk hw2 hi) hx' ((hk.mono U1.le).mono hu.le) he) fun e w p=>Post.stepS hcar rfl hu p
   ·rw [e1]at hcar
    exact .inr ⟨⟨_,rfl⟩,Post.stepS hcar rfl (Gh.up.refl _) (Post.now (.stop vd m' w1 hcn))⟩
  ·have hnx:Sc.next S (.ap (.prim p) [v] k) m=(.stop 6,m):=by
    show carry S (.prim p) [v] k m=_
    rw [hc];simp [hk0,hg0,hil,hko]
   refine Calls.mono (ql1 g o sc q f ku t y cw cu w ef egu ht (qap w fun hb=>i1.imm hb).1 (qap w fun hb=>i1.imm hb).2) ?_
   rintro e w' ⟨rfl,hb⟩
   exact Post.stepS hnx rfl (Gh.up.refl G) (Post.now (.stop 6 _ _ (i.cntB (Nat.le_refl _) hb)))
 ·have hnx:Sc.next S (.ap (.prim p) al k) m=(.stop 7,m):=by
   show carry S (.prim p) al k m=_
   rw [hc]
   have:al.length≠1:=by omega
   simp [hk0,hil,this]
  obtain⟨xs,_,hxl,_,_,_,hx6⟩:=hr.vals
  refine Calls.mono (ql2 sa sn sc q ku cu w (by omega) hlen) ?_
  rintro e w' ⟨rfl,o',rfl⟩
  exact Post.stepS hnx rfl (Gh.up.refl G) (Post.now (.stop 7 _ _ (i.cntB (Nat.le_refl _) ((Below.refl _ _).alloc (Nat.le_refl _) _))))
theorem VRep.as276 {G:Gh} {v:Vl} {t:Nat} {y:Value} (h:VRep G v (.iface t y)):(t=182∧∃b:ByteArray,y=.string b∧v=.str b.data.toList)∨(t≠182∧Kd.ok .str v=false):=by
 cases h with
 |str s _=>exact .inl ⟨rfl,s,rfl,rfl⟩
 |proc v b h=>right;refine⟨by decide,?_⟩;cases h <;> rfl
 |_=>exact .inr ⟨by decide,rfl⟩
theorem qh7 {S:Sub} {n:Nat} (p:Pm) (f:Nat) (cw:Array Value) (ef:Eg f) (hk0:p.kinds=[.str]) (hg0:p.grant=0) (hil:p.isList=false) (hc:Plain S p)
  (G:Gh) (m:Mc) (w:World) (al:List Vl) (k:List Fr) (q ku tq:Nat) (cu:Array Value) (sa:Option Addr) (sn sc:Nat)
  (hwork:∀(H:Gh) (w':World) (v:Vl) (b:ByteArray),G.up H→Inv H S m w'→VRep H v (.iface 182 (.string b))→Calls prog f (#[.string b]++cw) w' (WorkOk H S (value S m p [v])))
  (i:Inv G S m w) (hq:G.I q=some (.cells #[.func (.func f) #[] cw] tq (0,0))) (hk:FRep G k (.func (.func ku) #[] cu)) (hr:LRow G w.heap (.slice sa sn sc) al) (he:Ct.ended (go S (n+1) (.ap (.prim p) al k) m).1=true):
  Calls prog 276 (#[.slice sa sn sc,.func (.func ku) #[] cu]++#[bp q]) w (PostS G S (n+1) (.ap (.prim p) al k) m):=by
 have hsn:sn=al.length:=by
  rcases hr with⟨rfl,a,cap,h⟩|⟨g,o,cap,arr,h,_⟩
  ·cases h;rfl
  ·cases h;rfl
 by_cases hlen:sn=1
 ·subst hlen
  obtain⟨v,rfl⟩:∃v,al=[v]:=by
   match al,hsn with
   | [a],_=>exact⟨a,rfl⟩
  obtain⟨g,o,arr,x,rfl,hc1,hc2,hg,hgm,hgi,hx1,hv⟩:=hr.one
  have i1:=i.fix hgm hgi hg
  have U1:G.up (G.add g (.cells arr 116)):=⟨Gh.le_add hgi,rfl,rfl⟩
  obtain⟨t,y,rfl⟩:=hv.form
  obtain⟨kk,ck,hku,egu⟩:=hk.isF
  cases hku
  have qap:∀(w':World),(∀{b:Nat} {ob:Obj},(G.add g (.cells arr 116)).I b=some ob→w'.heap[b]? =some ob)→w'.cell? ⟨g,o,none⟩=some (.iface t y)∧w'.cell? ⟨q,0,none⟩=some (.func (.func f) #[] cw):=fun w' hw'=>by
   refine⟨?_,?_⟩
   ·simp only [World.cell?,hw' (Gh.add_at G g (.cells arr 116))];simpa using hx1
   ·simp [World.cell?,hw' (U1.le.I hq)]
  rcases hv.as276 with⟨rfl,b,rfl,hsh⟩|⟨ht,hko⟩
  ·have hko:Kd.ok .str v=true:=by
    cases hv with
    |_=>rfl
   have hcar:Sc.next S (.ap (.prim p) [v] k) m=(match value S m p [v]with
     |(.error e,m)=>(.stop e,m)
     |(.ok v,m)=>(.ret v k,m)):=by
    show carry S (.prim p) [v] k m=_
    rw [hc];simp [hk0,hg0,hil,hko] <;> rfl
   refine Calls.mono (R:=PostS (G.add g (.cells arr 116)) S (n+1) (.ap (.prim p) [v] k) m) ?_ (fun e w h=>h.up U1)
   refine qoi g o sc q f ku b cw cu w _ ef egu PostS.ends (fun v w' p=>qap w' fun hb=>p.keeps hb) (qap w fun hb=>i1.imm hb).1 (qap w fun hb=>i1.imm hb).2 ?_
   intro w' hw
   refine Calls.mono (hwork _ w' v b U1 (Inv.lk hw i1) (hv.mono U1.le)) ?_
   rintro e w1 (⟨H,v',m',x',e1,rfl,hu,hi,hx'⟩|⟨vd,m',e1,rfl,hcn⟩)
   ·rw [e1]at hcar
    rw [qan hcar rfl]at he
    obtain⟨t',y',rfl⟩:=hx'.form
    refine .inl ⟨t',y',rfl,qap w1 fun hb=>hi.imm (hu.le.I hb),fun w2 hw2=>?_⟩
    exact Calls.mono ((qav S n).2 H m' w2 v' k _ ku cu (Inv.lk hw2 hi) hx' ((hk.mono U1.le).mono hu.le) he) fun e w p=>Post.stepS hcar rfl hu p
   ·rw [e1]at hcar
    exact .inr ⟨⟨_,rfl⟩,Post.stepS hcar rfl (Gh.up.refl _) (Post.now (.stop vd m' w1 hcn))⟩
  ·have hnx:Sc.next S (.ap (.prim p) [v] k) m=(.stop 6,m):=by
    show carry S (.prim p) [v] k m=_
    rw [hc];simp [hk0,hg0,hil,hko]
   refine Calls.mono (qlz g o sc q f ku t y cw cu w ef egu ht (qap w fun hb=>i1.imm hb).1 (qap w fun hb=>i1.imm hb).2) ?_
   rintro e w' ⟨rfl,hb⟩
   exact Post.stepS hnx rfl (Gh.up.refl G) (Post.now (.stop 6 _ _ (i.cntB (Nat.le_refl _) hb)))
 ·have hnx:Sc.next S (.ap (.prim p) al k) m=(.stop 7,m):=by
   show carry S (.prim p) al k m=_
   rw [hc]
   have:al.length≠1:=by omega
   simp [hk0,hil,this]
  obtain⟨xs,_,hxl,_,_,_,hx6⟩:=hr.vals
  refine Calls.mono (ql0 sa sn sc q ku cu w (by omega) hlen) ?_
  rintro e w' ⟨rfl,o',rfl⟩
  exact Post.stepS hnx rfl (Gh.up.refl G) (Post.now (.stop 7 _ _ (i.cntB (Nat.le_refl _) ((Below.refl _ _).alloc (Nat.le_refl _) _))))
theorem VRep.as277 {G:Gh} {v:Vl} {t:Nat} {y:Value} (h:VRep G v (.iface t y)):(t=180∧∃b:Int,y=.int .i64 b∧v=.num b∧-9223372036854775808≤b∧b≤9223372036854775807)∨(t≠180∧Kd.ok .num v=false):=by
 cases h with
 |num n h0 h1=>exact .inl ⟨rfl,n,rfl,rfl,h0,h1⟩
 |proc v b h=>right;refine⟨by decide,?_⟩;cases h <;> rfl
 |_=>exact .inr ⟨by decide,rfl⟩
theorem qh6 {S:Sub} {n:Nat} (p:Pm) (f:Nat) (cw:Array Value) (ef:Eg f) (hk0:p.kinds=[.num]) (hg0:p.grant=0) (hil:p.isList=false) (hc:Plain S p)
  (G:Gh) (m:Mc) (w:World) (al:List Vl) (k:List Fr) (q ku tq:Nat) (cu:Array Value) (sa:Option Addr) (sn sc:Nat)
  (hwork:∀(H:Gh) (w':World) (v:Vl) (b:Int),G.up H→Inv H S m w'→VRep H v (.iface 180 (.int .i64 b))→Calls prog f (#[.int .i64 b]++cw) w' (WorkOk H S (value S m p [v])))
  (i:Inv G S m w) (hq:G.I q=some (.cells #[.func (.func f) #[] cw] tq (0,0))) (hk:FRep G k (.func (.func ku) #[] cu)) (hr:LRow G w.heap (.slice sa sn sc) al) (he:Ct.ended (go S (n+1) (.ap (.prim p) al k) m).1=true):
  Calls prog 277 (#[.slice sa sn sc,.func (.func ku) #[] cu]++#[bp q]) w (PostS G S (n+1) (.ap (.prim p) al k) m):=by
 have hsn:sn=al.length:=by
  rcases hr with⟨rfl,a,cap,h⟩|⟨g,o,cap,arr,h,_⟩
  ·cases h;rfl
  ·cases h;rfl
 by_cases hlen:sn=1
 ·subst hlen
  obtain⟨v,rfl⟩:∃v,al=[v]:=by
   match al,hsn with
   | [a],_=>exact⟨a,rfl⟩
  obtain⟨g,o,arr,x,rfl,hc1,hc2,hg,hgm,hgi,hx1,hv⟩:=hr.one
  have i1:=i.fix hgm hgi hg
  have U1:G.up (G.add g (.cells arr 116)):=⟨Gh.le_add hgi,rfl,rfl⟩
  obtain⟨t,y,rfl⟩:=hv.form
  obtain⟨kk,ck,hku,egu⟩:=hk.isF
  cases hku
  have qap:∀(w':World),(∀{b:Nat} {ob:Obj},(G.add g (.cells arr 116)).I b=some ob→w'.heap[b]? =some ob)→w'.cell? ⟨g,o,none⟩=some (.iface t y)∧w'.cell? ⟨q,0,none⟩=some (.func (.func f) #[] cw):=fun w' hw'=>by
   refine⟨?_,?_⟩
   ·simp only [World.cell?,hw' (Gh.add_at G g (.cells arr 116))];simpa using hx1
   ·simp [World.cell?,hw' (U1.le.I hq)]
  rcases hv.as277 with⟨rfl,b,rfl,hsh⟩|⟨ht,hko⟩
  ·have hko:Kd.ok .num v=true:=by
    cases hv with
    |_=>rfl
   have hcar:Sc.next S (.ap (.prim p) [v] k) m=(match value S m p [v]with
     |(.error e,m)=>(.stop e,m)
     |(.ok v,m)=>(.ret v k,m)):=by
    show carry S (.prim p) [v] k m=_
    rw [hc];simp [hk0,hg0,hil,hko] <;> rfl
   refine Calls.mono (R:=PostS (G.add g (.cells arr 116)) S (n+1) (.ap (.prim p) [v] k) m) ?_ (fun e w h=>h.up U1)
   refine qoh g o sc q f ku b cw cu w _ ef egu PostS.ends (fun v w' p=>qap w' fun hb=>p.keeps hb) (qap w fun hb=>i1.imm hb).1 (qap w fun hb=>i1.imm hb).2 ?_
   intro w' hw
   refine Calls.mono (hwork _ w' v b U1 (Inv.lk hw i1) (hv.mono U1.le)) ?_
   rintro e w1 (⟨H,v',m',x',e1,rfl,hu,hi,hx'⟩|⟨vd,m',e1,rfl,hcn⟩)
   ·rw [e1]at hcar
    rw [qan hcar rfl]at he
    obtain⟨t',y',rfl⟩:=hx'.form
    refine .inl ⟨t',y',rfl,qap w1 fun hb=>hi.imm (hu.le.I hb),fun w2 hw2=>?_⟩
    exact Calls.mono ((qav S n).2 H m' w2 v' k _ ku cu (Inv.lk hw2 hi) hx' ((hk.mono U1.le).mono hu.le) he) fun e w p=>Post.stepS hcar rfl hu p
   ·rw [e1]at hcar
    exact .inr ⟨⟨_,rfl⟩,Post.stepS hcar rfl (Gh.up.refl _) (Post.now (.stop vd m' w1 hcn))⟩
  ·have hnx:Sc.next S (.ap (.prim p) [v] k) m=(.stop 6,m):=by
    show carry S (.prim p) [v] k m=_
    rw [hc];simp [hk0,hg0,hil,hko]
   refine Calls.mono (qlx g o sc q f ku t y cw cu w ef egu ht (qap w fun hb=>i1.imm hb).1 (qap w fun hb=>i1.imm hb).2) ?_
   rintro e w' ⟨rfl,hb⟩
   exact Post.stepS hnx rfl (Gh.up.refl G) (Post.now (.stop 6 _ _ (i.cntB (Nat.le_refl _) hb)))
 ·have hnx:Sc.next S (.ap (.prim p) al k) m=(.stop 7,m):=by
   show carry S (.prim p) al k m=_
   rw [hc]
   have:al.length≠1:=by omega
   simp [hk0,hil,this]
  obtain⟨xs,_,hxl,_,_,_,hx6⟩:=hr.vals
  refine Calls.mono (qly sa sn sc q ku cu w (by omega) hlen) ?_
  rintro e w' ⟨rfl,o',rfl⟩
  exact Post.stepS hnx rfl (Gh.up.refl G) (Post.now (.stop 7 _ _ (i.cntB (Nat.le_refl _) ((Below.refl _ _).alloc (Nat.le_refl _) _))))
theorem VRep.as278 {G:Gh} {v:Vl} {t:Nat} {y:Value} (h:VRep G v (.iface t y)):(t=183∧∃b:ByteArray,y=.string b∧v=.sym b.data.toList)∨(t≠183∧Kd.ok .sym v=false):=by
 cases h with
 |sym s _=>exact .inl ⟨rfl,s,rfl,rfl⟩
 |proc v b h=>right;refine⟨by decide,?_⟩;cases h <;> rfl
 |_=>exact .inr ⟨by decide,rfl⟩
theorem qh5 {S:Sub} {n:Nat} (p:Pm) (f:Nat) (cw:Array Value) (ef:Eg f) (hk0:p.kinds=[.sym]) (hg0:p.grant=0) (hil:p.isList=false) (hc:Plain S p)
  (G:Gh) (m:Mc) (w:World) (al:List Vl) (k:List Fr) (q ku tq:Nat) (cu:Array Value) (sa:Option Addr) (sn sc:Nat)
  (hwork:∀(H:Gh) (w':World) (v:Vl) (b:ByteArray),G.up H→Inv H S m w'→VRep H v (.iface 183 (.string b))→Calls prog f (#[.string b]++cw) w' (WorkOk H S (value S m p [v])))
  (i:Inv G S m w) (hq:G.I q=some (.cells #[.func (.func f) #[] cw] tq (0,0))) (hk:FRep G k (.func (.func ku) #[] cu)) (hr:LRow G w.heap (.slice sa sn sc) al) (he:Ct.ended (go S (n+1) (.ap (.prim p) al k) m).1=true):
  Calls prog 278 (#[.slice sa sn sc,.func (.func ku) #[] cu]++#[bp q]) w (PostS G S (n+1) (.ap (.prim p) al k) m):=by
 have hsn:sn=al.length:=by
  rcases hr with⟨rfl,a,cap,h⟩|⟨g,o,cap,arr,h,_⟩
  ·cases h;rfl
  ·cases h;rfl
 by_cases hlen:sn=1
 ·subst hlen
  obtain⟨v,rfl⟩:∃v,al=[v]:=by
   match al,hsn with
   | [a],_=>exact⟨a,rfl⟩
  obtain⟨g,o,arr,x,rfl,hc1,hc2,hg,hgm,hgi,hx1,hv⟩:=hr.one
  have i1:=i.fix hgm hgi hg
  have U1:G.up (G.add g (.cells arr 116)):=⟨Gh.le_add hgi,rfl,rfl⟩
  obtain⟨t,y,rfl⟩:=hv.form
  obtain⟨kk,ck,hku,egu⟩:=hk.isF
  cases hku
  have qap:∀(w':World),(∀{b:Nat} {ob:Obj},(G.add g (.cells arr 116)).I b=some ob→w'.heap[b]? =some ob)→w'.cell? ⟨g,o,none⟩=some (.iface t y)∧w'.cell? ⟨q,0,none⟩=some (.func (.func f) #[] cw):=fun w' hw'=>by
   refine⟨?_,?_⟩
   ·simp only [World.cell?,hw' (Gh.add_at G g (.cells arr 116))];simpa using hx1
   ·simp [World.cell?,hw' (U1.le.I hq)]
  rcases hv.as278 with⟨rfl,b,rfl,hsh⟩|⟨ht,hko⟩
  ·have hko:Kd.ok .sym v=true:=by
    cases hv with
    |_=>rfl
   have hcar:Sc.next S (.ap (.prim p) [v] k) m=(match value S m p [v]with
     |(.error e,m)=>(.stop e,m)
     |(.ok v,m)=>(.ret v k,m)):=by
    show carry S (.prim p) [v] k m=_
    rw [hc];simp [hk0,hg0,hil,hko] <;> rfl
   refine Calls.mono (R:=PostS (G.add g (.cells arr 116)) S (n+1) (.ap (.prim p) [v] k) m) ?_ (fun e w h=>h.up U1)
   refine qog g o sc q f ku b cw cu w _ ef egu PostS.ends (fun v w' p=>qap w' fun hb=>p.keeps hb) (qap w fun hb=>i1.imm hb).1 (qap w fun hb=>i1.imm hb).2 ?_
   intro w' hw
   refine Calls.mono (hwork _ w' v b U1 (Inv.lk hw i1) (hv.mono U1.le)) ?_
   rintro e w1 (⟨H,v',m',x',e1,rfl,hu,hi,hx'⟩|⟨vd,m',e1,rfl,hcn⟩)
   ·rw [e1]at hcar
    rw [qan hcar rfl]at he
    obtain⟨t',y',rfl⟩:=hx'.form
    refine .inl ⟨t',y',rfl,qap w1 fun hb=>hi.imm (hu.le.I hb),fun w2 hw2=>?_⟩
    exact Calls.mono ((qav S n).2 H m' w2 v' k _ ku cu (Inv.lk hw2 hi) hx' ((hk.mono U1.le).mono hu.le) he) fun e w p=>Post.stepS hcar rfl hu p
   ·rw [e1]at hcar
    exact .inr ⟨⟨_,rfl⟩,Post.stepS hcar rfl (Gh.up.refl _) (Post.now (.stop vd m' w1 hcn))⟩
  ·have hnx:Sc.next S (.ap (.prim p) [v] k) m=(.stop 6,m):=by
    show carry S (.prim p) [v] k m=_
    rw [hc];simp [hk0,hg0,hil,hko]
   refine Calls.mono (qlv g o sc q f ku t y cw cu w ef egu ht (qap w fun hb=>i1.imm hb).1 (qap w fun hb=>i1.imm hb).2) ?_
   rintro e w' ⟨rfl,hb⟩
   exact Post.stepS hnx rfl (Gh.up.refl G) (Post.now (.stop 6 _ _ (i.cntB (Nat.le_refl _) hb)))
 ·have hnx:Sc.next S (.ap (.prim p) al k) m=(.stop 7,m):=by
   show carry S (.prim p) al k m=_
   rw [hc]
   have:al.length≠1:=by omega
   simp [hk0,hil,this]
  obtain⟨xs,_,hxl,_,_,_,hx6⟩:=hr.vals
  refine Calls.mono (qlw sa sn sc q ku cu w (by omega) hlen) ?_
  rintro e w' ⟨rfl,o',rfl⟩
  exact Post.stepS hnx rfl (Gh.up.refl G) (Post.now (.stop 7 _ _ (i.cntB (Nat.le_refl _) ((Below.refl _ _).alloc (Nat.le_refl _) _))))
end
section
open Sc
theorem car_w (b t:Nat) (x:Value) (w:World) (h:w.cell? ⟨b,0,none⟩=some (.iface t x)):Calls prog 202 #[.pointer (some ⟨b,0,none⟩)] w fun e w'=>e=.returned (.iface t x)∧w'=w:=by
 go_enter func202,ntmps202
 go_wp2
 go_ret
 exact⟨rfl,rfl⟩
theorem cdr_w (b t:Nat) (x:Value) (w:World) (h:w.cell? ⟨b,1,none⟩=some (.iface t x)):Calls prog 203 #[.pointer (some ⟨b,0,none⟩)] w fun e w'=>e=.returned (.iface t x)∧w'=w:=by
 go_enter func203,ntmps203
 go_wp2
 go_ret
 exact⟨rfl,rfl⟩
theorem qs9 {S:Sub} (m:Mc) (H:Gh) (w:World) (v:Vl) (b:Nat) (i:Inv H S m w) (hv:VRep H v (.iface 246 (bp b))):Calls prog 202 (#[bp b]++#[]) w (WorkOk H S (value S m .car [v])):=by
 cases hv with
 |pair id b v u x y hj hb h1 h2=>
  obtain⟨t,x',rfl⟩:=h1.form
  refine Calls.mono (car_w b t x' w (by rw [i.cell hb];rfl)) ?_
  rintro e w' ⟨rfl,rfl⟩
  exact .inl ⟨H,v,m,_,rfl,rfl,Gh.up.refl H,i,h1⟩
theorem qs7 {S:Sub} (m:Mc) (H:Gh) (w:World) (v:Vl) (b:Nat) (i:Inv H S m w) (hv:VRep H v (.iface 246 (bp b))):Calls prog 203 (#[bp b]++#[]) w (WorkOk H S (value S m .cdr [v])):=by
 cases hv with
 |pair id b v u x y hj hb h1 h2=>
  obtain⟨t,x',rfl⟩:=h2.form
  refine Calls.mono (cdr_w b t x' w (by rw [i.cell hb];rfl)) ?_
  rintro e w' ⟨rfl,rfl⟩
  exact .inl ⟨H,u,m,_,rfl,rfl,Gh.up.refl H,i,h2⟩
theorem qqw (s:ByteArray) (w:World):Calls prog 215 #[.string s] w fun e w'=>e=.returned (.iface 180 (.int .i64 (s.size:Int)))∧w'=w:=by
 go_enter func215,ntmps215
 go_wp2
 go_ret
 exact⟨rfl,rfl⟩
theorem text_ok (mb cb:Nat) (s:ByteArray) (t mo:Int) (w:World)
  (h2:w.cell? ⟨mb,1,none⟩=some (.pointer (some ⟨cb,0,none⟩))) (hM:Mt cb t mo 11 w) (h0:0≤t) (ht:t+1≤mo) (hm:mo≤1000000):
  Calls prog 213 #[.pointer (some ⟨mb,0,none⟩),.string s] w fun e w'=>e=.returned (.iface 182 (.string s))∧Lk (w.setCell ⟨cb,0,none⟩ (.int .i64 (t+1))) w':=by
 have HT:=hZ (qba cb t mo 11 1 w hM h0 ht (by omega) hm)
 clear hM
 go_enter func213,ntmps213
 go_wp2_with (go_at_call 200;refine HT.out.mono ?_;rintro e w2 ⟨rfl,n,rfl⟩)
 go_ret
 exact⟨rfl,⟨rfl,rfl,rfl,rfl⟩⟩
theorem qqs (mb cb:Nat) (s:ByteArray) (t:Int) (w:World)
  (h2:w.cell? ⟨mb,1,none⟩=some (.pointer (some ⟨cb,0,none⟩))) (hM:Mt cb t t 11 w) (h0:0≤t) (hm:t≤1000000):
  Calls prog 213 #[.pointer (some ⟨mb,0,none⟩),.string s] w fun e w'=>e=.panicked (stopP (stopV 11))∧Below w.heap.size (w.setCell ⟨cb,0,none⟩ (.int .i64 t)) w':=by
 have HT:=hZ (qa1 cb t t 11 1 w hM h0 (by omega) (by omega) (by omega) hm)
 clear hM
 go_enter func213,ntmps213
 go_wp2_with (go_at_call 200;refine HT.out.mono ?_;rintro e w2 ⟨rfl,hb⟩)
 exact⟨rfl,rfl,hb⟩
end
section
open Sc
theorem qf1 {S:Sub} (m:Mc) (H:Gh) (w:World) (s:ByteArray) (hz:s.size≤1000000000) (i:Inv H S m w):Calls prog 213 #[bp H.mb,.string s] w (WorkOk H S (new S m fun m=>(.str s.data.toList,m))):=by
 by_cases hce:(m.cells:Int)<S.quota
 ·have ic:=i.cells (m.cells+1) (by push_cast;omega)
  have ic:Inv H S {m with cells:=m.cells+1} (w.setCell ⟨H.cb,0,none⟩ (.int .i64 ((m.cells:Int)+1))):=by simpa using ic
  refine Calls.mono (text_ok H.mb H.cb s m.cells S.quota w i.mb1 i.ce (by omega) (by omega) (by have:=i.cl.2;omega)) ?_
  rintro e w' ⟨rfl,hw⟩
  exact .inl ⟨H,_,_,_,by simp [new,Sc.cell,hce],rfl,Gh.up.refl H,Inv.lk hw ic,.str s hz⟩
 ·have hm:(m.cells:Int)=S.quota:=by have:(m.cells:Int)≤S.quota:=i.cl.1;omega
  have hM:Mt H.cb m.cells S.quota 11 w:=i.ce
  rw [←hm]at hM
  refine Calls.mono (qqs H.mb H.cb s m.cells w i.mb1 hM (by omega) (by have:=i.cl.2;omega)) ?_
  rintro e w' ⟨rfl,hb⟩
  have i1:=i.cells m.cells (by omega)
  exact .inr ⟨11,m,by simp [new,Sc.cell,hce],rfl,i1.cntB (by rw [qaf];exact Nat.le_refl _) hb⟩
theorem WorkOk.ends {G:Gh} {S:Sub} {rv:Except Nat Vl×Mc} {e:Ending} {w:World} (h:WorkOk G S rv e w):(∃t y,e=.returned (.iface t y))∨∃ps,e=.panicked ps:=by
 rcases h with⟨H,v',m',x',_,rfl,_,_,hx⟩|⟨vd,m',_,rfl,_⟩
 ·obtain⟨t,y,rfl⟩:=hx.form;exact .inl ⟨t,y,rfl⟩
 ·exact .inr ⟨_,rfl⟩
theorem qqt (r mb:Nat) (s:ByteArray) (w:World) (Q:Ending→World→Prop) (hQ:∀e w,Q e w→(∃t y,e=.returned (.iface t y))∨∃ps,e=.panicked ps)
  (h1:w.cell? ⟨r,0,none⟩=some (.pointer (some ⟨mb,0,none⟩))) (hT:∀w',Lk w w'→Calls prog 213 #[.pointer (some ⟨mb,0,none⟩),.string s] w' Q):
  Calls prog 220 #[.string s,.pointer (some ⟨r,0,none⟩)] w Q:=by
 have HT:=hZ hT
 have HQ:=hZ hQ
 clear hT hQ
 go_enter func220,ntmps220
 go_wp2_with (go_at_call 213;refine(HT.out _ (by exact⟨rfl,rfl,rfl,rfl⟩)).mono ?_;intro e w2 hq;rcases HQ.out _ _ hq with⟨t,y,rfl⟩|⟨ps,rfl⟩)
 ·go_wp2
  exact hq
 ·exact⟨rfl,hq⟩
end
section
open Sc
theorem qih {S:Sub} (m:Mc) (H:Gh) (w:World) (v:Vl) (s:ByteArray) (r:Nat) (hr:H.mbox r) (i:Inv H S m w) (hv:VRep H v (.iface 183 (.string s))):Calls prog 220 (#[.string s]++#[bp r]) w (WorkOk H S (value S m .symStr [v])):=by
 cases hv with
 |sym s hz=>exact qqt r H.mb s w _ (fun e w h=>h.ends) (by rw [i.cell hr];rfl) fun w' hw=>qf1 m H w' s hz (Inv.lk hw i)
theorem seal_ok (r mb cb tx:Nat) (t mo:Int) (x:Value) (w:World)
  (h1:w.cell? ⟨r,0,none⟩=some (.pointer (some ⟨mb,0,none⟩))) (h2:w.cell? ⟨mb,1,none⟩=some (.pointer (some ⟨cb,0,none⟩))) (hM:Mt cb t mo 11 w) (h0:0≤t) (ht:t+1≤mo) (hm:mo≤1000000):
  Calls prog 225 #[.iface tx x,.pointer (some ⟨r,0,none⟩)] w fun e w'=>e=.returned (.iface 285 (.pointer (some ⟨w.heap.size+1,0,none⟩)))∧Lk (((w.setCell ⟨cb,0,none⟩ (.int .i64 (t+1))).alloc (.cells #[.iface tx x] 116)).alloc (.cells #[.func (.func 226) #[] #[.pointer (some ⟨w.heap.size,0,none⟩)]] 316)) w':=by
 have k1:∀x,(w.alloc x).cell? ⟨r,0,none⟩=some (.pointer (some ⟨mb,0,none⟩)):=fun x=>(qad (qac h1) x).trans h1
 have k2:∀x,(w.alloc x).cell? ⟨mb,1,none⟩=some (.pointer (some ⟨cb,0,none⟩)):=fun x=>(qad (qac h2) x).trans h2
 have hsl:=hM.lt
 have HT:Hid (∀x,Calls prog 200 #[.pointer (some ⟨cb,0,none⟩),.int .i64 1] (w.alloc x) fun e w'=>e=.returned (.tuple #[])∧∃k,w'=((w.alloc x).setCell ⟨cb,0,none⟩ (.int .i64 (t+1))).drewN k):=fun x=>
  qba cb t mo 11 1 _ (by unfold Mt at*;rw [Below.heap_alloc _ _ _ hsl];exact hM) h0 ht (by omega) hm
 clear hM
 go_enter func225,ntmps225
 go_wp2_with (go_at_call 200;refine(HT.out _).mono ?_;rintro e w2 ⟨rfl,n,rfl⟩)
 go_wp2
 go_ret
 exact⟨rfl,⟨rfl,rfl,rfl,rfl⟩⟩
theorem qre (r mb cb tx:Nat) (t:Int) (x:Value) (w:World)
  (h1:w.cell? ⟨r,0,none⟩=some (.pointer (some ⟨mb,0,none⟩))) (h2:w.cell? ⟨mb,1,none⟩=some (.pointer (some ⟨cb,0,none⟩))) (hM:Mt cb t t 11 w) (h0:0≤t) (hm:t≤1000000):
  Calls prog 225 #[.iface tx x,.pointer (some ⟨r,0,none⟩)] w fun e w'=>e=.panicked (stopP (stopV 11))∧Below w.heap.size (w.setCell ⟨cb,0,none⟩ (.int .i64 t)) w':=by
 have k1:∀x,(w.alloc x).cell? ⟨r,0,none⟩=some (.pointer (some ⟨mb,0,none⟩)):=fun x=>(qad (qac h1) x).trans h1
 have k2:∀x,(w.alloc x).cell? ⟨mb,1,none⟩=some (.pointer (some ⟨cb,0,none⟩)):=fun x=>(qad (qac h2) x).trans h2
 have hsl:=hM.lt
 have HT:Hid (∀x,Calls prog 200 #[.pointer (some ⟨cb,0,none⟩),.int .i64 1] (w.alloc x) fun e w'=>e=.panicked (stopP (stopV 11))∧Below (w.alloc x).heap.size ((w.alloc x).setCell ⟨cb,0,none⟩ (.int .i64 t)) w'):=fun x=>
  qa1 cb t t 11 1 _ (by unfold Mt at*;rw [Below.heap_alloc _ _ _ hsl];exact hM) h0 (by omega) (by omega) (by omega) hm
 clear hM
 go_enter func225,ntmps225
 go_wp2_with (go_at_call 200;refine(HT.out _).mono ?_;rintro e w2 ⟨rfl,hb⟩)
 refine⟨rfl,rfl,?_⟩
 refine⟨hb.os,hb.tape,hb.output,by have:=hb.size;simp only [qaf]at this⊢;simp at this;omega,fun c hc=>?_⟩
 rw [hb.block c (by simp;omega),qbk _ _ _ (by omega),Below.heap_alloc _ _ _ (by simp only [qaf];omega)]
theorem qnz {S:Sub} (m:Mc) (H:Gh) (w:World) (v:Vl) (x:Value) (r:Nat) (hr:H.mbox r) (i:Inv H S m w) (hv:VRep H v x):Calls prog 225 (#[x]++#[bp r]) w (WorkOk H S (value S m .seal [v])):=by
 have c1:w.cell? ⟨r,0,none⟩=some (.pointer (some ⟨H.mb,0,none⟩)):=by rw [i.cell hr];rfl
 obtain⟨t,x',rfl⟩:=hv.form
 by_cases hce:(m.cells:Int)<S.quota
 ·have ic:=i.cells (m.cells+1) (by push_cast;omega)
  have ic:Inv H S {m with cells:=m.cells+1} (w.setCell ⟨H.cb,0,none⟩ (.int .i64 ((m.cells:Int)+1))):=by simpa using ic
  refine Calls.mono (seal_ok r H.mb H.cb t m.cells S.quota x' w c1 i.mb1 i.ce (by omega) (by omega) (by have:=i.cl.2;omega)) ?_
  rintro e w' ⟨rfl,hw⟩
  have ia:=ic.alloc (.cells #[.iface t x'] 116)
  have xa:=ic.x1 (.cells #[.iface t x'] 116)
  have io:=ia.newObj (.cells #[.func (.func 226) #[] #[bp w.heap.size]] 316)
  have xo:=ia.ext_newObj (.cells #[.func (.func 226) #[] #[bp w.heap.size]] 316)
  have ao:=ia.at_newObj (.cells #[.func (.func 226) #[] #[bp w.heap.size]] 316)
  have hz:((w.setCell ⟨H.cb,0,none⟩ (.int .i64 ((m.cells:Int)+1))).alloc (.cells #[.iface t x'] 116)).heap.size=w.heap.size+1:=by simp
  have hz0:(w.setCell ⟨H.cb,0,none⟩ (.int .i64 ((m.cells:Int)+1))).heap.size=w.heap.size:=qaf
  rw [hz]at io xo ao
  rw [hz0]at io xo ao xa
  have L:=xa.le.trans xo.le
  exact .inl ⟨_,_,_,_,by simp [value,new,Sc.cell,hce],rfl,xa.up.trans xo.up,Inv.lk hw io,.seal m.ids (w.heap.size+1) w.heap.size v _ ao (Gh.add_at _ _ _) (xo.le.I (Gh.add_at _ _ _)) (hv.mono L)⟩
 ·have hm:(m.cells:Int)=S.quota:=by have:(m.cells:Int)≤S.quota:=i.cl.1;omega
  have hM:Mt H.cb m.cells S.quota 11 w:=i.ce
  rw [←hm]at hM
  refine Calls.mono (qre r H.mb H.cb t m.cells x' w c1 i.mb1 hM (by omega) (by have:=i.cl.2;omega)) ?_
  rintro e w' ⟨rfl,hb⟩
  have i1:=i.cells m.cells (by omega)
  exact .inr ⟨11,m,by simp [value,new,Sc.cell,hce],rfl,i1.cntB (by rw [qaf];exact Nat.le_refl _) hb⟩
end
section
open Sc
theorem ql7 (q1 mb cb k N sc:Nat) (sa:Option Addr) (t mo:Int) (cp:Array Value) (w:World) (Q:Ending→World→Prop)
  (eg:∀args w,(callFunc k args).run prog w=.ok (.enter k args) w)
  (hQ:∀e w,Q e w→(∃v,e=.returned v)∨(∃ps,e=.panicked ps))
  (h1:w.cell? ⟨q1,0,none⟩=some (.pointer (some ⟨mb,0,none⟩))) (h3:w.cell? ⟨mb,1,none⟩=some (.pointer (some ⟨cb,0,none⟩)))
  (hM:Mt cb t mo 11 w) (h0:0≤t) (ht:t+N≤mo) (hm:mo≤1000000)
  (hO:∀w',Lk (w.setCell ⟨cb,0,none⟩ (.int .i64 (t+N))) w'→Calls prog 91 #[.slice sa N sc,.iface 186 (.agg #[])] w' fun e' w2=>∃ty y,e'=.returned (.iface ty y)∧∀w3,Lk w2 w3→Calls prog k (#[.iface ty y]++cp) w3 Q):
  Calls prog 204 #[.slice sa N sc,.func (.func k) #[] cp,.pointer (some ⟨q1,0,none⟩)] w Q:=by
 have HO:=hZ hO
 have HQ:=hZ hQ
 have HT:Hid (∀w',Lk w w'→Calls prog 200 #[.pointer (some ⟨cb,0,none⟩),.int .i64 (N:Int)] w' fun e w2=>e=.returned (.tuple #[])∧∃k,w2=(w'.setCell ⟨cb,0,none⟩ (.int .i64 (t+N))).drewN k):=fun w' hl=>
  qba cb t mo 11 N w' (by unfold Mt at*;rw [hl.heap];exact hM) h0 ht (by omega) hm
 clear hO hQ hM
 go_enter func204,ntmps204
 go_wp2_with (go_at_call 200;refine(HT.out _ (by exact⟨rfl,rfl,rfl,rfl⟩)).mono ?_;rintro e w2 ⟨rfl,kd,rfl⟩)
 go_wp2_with (go_at_call 91;refine(HO.out _ (by exact⟨rfl,rfl,rfl,rfl⟩)).mono ?_;rintro e w2 ⟨ty,y,rfl,hk⟩;have HK:=hZ hk;clear hk)
 go_wp2_with (go_at_fn k;refine(HK.out _ (by exact⟨rfl,rfl,rfl,rfl⟩)).mono ?_;intro e w3 hq)
 all_goals first|exact hq|exact⟨rfl,hq⟩|(rcases HQ.out _ _ hq with⟨v,h⟩|⟨ps,h⟩ <;> cases h)
theorem qje (q1 mb cb k N sc:Nat) (sa:Option Addr) (t mo:Int) (cp:Array Value) (w:World)
  (h1:w.cell? ⟨q1,0,none⟩=some (.pointer (some ⟨mb,0,none⟩))) (h3:w.cell? ⟨mb,1,none⟩=some (.pointer (some ⟨cb,0,none⟩)))
  (hM:Mt cb t mo 11 w) (h0:0≤t) (ht:mo<t+N) (htm:t≤mo) (hm:mo≤1000000) (hN:N≤1000000):
  Calls prog 204 #[.slice sa N sc,.func (.func k) #[] cp,.pointer (some ⟨q1,0,none⟩)] w fun e w'=>e=.panicked (stopP (stopV 11))∧Below w.heap.size (w.setCell ⟨cb,0,none⟩ (.int .i64 mo)) w':=by
 have HT:Hid (∀w',Lk w w'→Calls prog 200 #[.pointer (some ⟨cb,0,none⟩),.int .i64 (N:Int)] w' fun e w2=>e=.panicked (stopP (stopV 11))∧Below w'.heap.size (w'.setCell ⟨cb,0,none⟩ (.int .i64 mo)) w2):=fun w' hl=>
  qa1 cb t mo 11 N w' (by unfold Mt at*;rw [hl.heap];exact hM) h0 ht (by omega) htm hm
 clear hM
 go_enter func204,ntmps204
 go_wp2_with (go_at_call 200;refine(HT.out _ (by exact⟨rfl,rfl,rfl,rfl⟩)).mono ?_;rintro e w2 ⟨rfl,hb⟩)
 exact⟨rfl,rfl,hb⟩
end
section
open Sc
theorem carry_list {S:Sub} {n:Nat} (G:Gh) (m:Mc) (w:World) (al:List Vl) (k:List Fr) (q ku:Nat) (cu:Array Value) (sa:Option Addr) (sn sc:Nat)
  (i:Inv G S m w) (hq:G.mbox q) (hk:FRep G k (.func (.func ku) #[] cu)) (hr:LRow G w.heap (.slice sa sn sc) al) (he:Ct.ended (go S (n+1) (.ap (.prim .list) al k) m).1=true):
  Calls prog 204 (#[.slice sa sn sc,.func (.func ku) #[] cu]++#[bp q]) w (PostS G S (n+1) (.ap (.prim .list) al k) m):=by
 obtain⟨xs,hv,hxl,hal,hrow,hgm,hx6⟩:=hr.vals
 have c1:w.cell? ⟨q,0,none⟩=some (.pointer (some ⟨G.mb,0,none⟩)):=by rw [i.cell hq];rfl
 have hcl:(m.cells:Int)≤S.quota:=i.cl.1
 subst hxl
 by_cases hce:(m.cells:Int)+al.length≤S.quota
 ·have hnx:Sc.next S (.ap (.prim .list) al k) m=(.ret (mkList {m with cells:=m.cells+al.length} al .nil).1 k,(mkList {m with cells:=m.cells+al.length} al .nil).2):=by
   show carry S (.prim .list) al k m=_
   simp only [carry,Pm.isList,Pm.grant,value]
   rw [cellsN_ok _ hce]
   rfl
  rw [qan hnx rfl]at he
  obtain⟨kk,ck,hku,egu⟩:=hk.isF
  cases hku
  have ic:=i.cells (m.cells+al.length) (by push_cast;exact hce)
  have ic:Inv G S {m with cells:=m.cells+al.length} (w.setCell ⟨G.cb,0,none⟩ (.int .i64 ((m.cells:Int)+xs.length))):=by rw [hal];simpa using ic
  refine ql7 q G.mb G.cb ku xs.length sc sa m.cells S.quota cu w _ egu PostS.ends c1 i.mb1 i.ce (by omega) (by omega) (by have:=i.cl.2;omega) ?_
  intro w' hw
  have:=qc9 G S {m with cells:=m.cells+al.length} w' sa sc al xs .nil (.iface 186 (.agg #[])) (Inv.lk hw ic) hv .nil ?_ hx6
  ·refine Calls.mono this ?_
   rintro e w2 ⟨H,x,rfl,hx,hi,hxv,_⟩
   obtain⟨tx,px,rfl⟩:=hxv.form
   refine⟨tx,px,rfl,fun w3 hw3=>?_⟩
   exact Calls.mono ((qav S n).2 H _ w3 _ k _ ku cu (Inv.lk hw3 hi) hxv (hk.mono hx.le) he) fun e w p=>Post.stepS hnx rfl hx.up p
  ·rcases hrow with h|⟨g,o,rfl,h⟩
   ·exact .inl h
   ·by_cases hx:xs=[]
    ·exact .inl hx
    ·refine .inr ⟨g,o,rfl,fun j hj=>?_⟩
     have hgc:g≠G.cb:=fun e=>hgm g o rfl hx (e▸i.m3)
     have:w'.cell? ⟨g,o+j,none⟩=(w.setCell ⟨G.cb,0,none⟩ (.int .i64 ((m.cells:Int)+xs.length))).cell? ⟨g,o+j,none⟩:=by simp only [World.cell?,hw.heap]
     rw [this,qag hgc];exact h j hj
 ·have hnx:Sc.next S (.ap (.prim .list) al k) m=(.stop 11,{m with cells:=S.quota.toNat}):=by
   show carry S (.prim .list) al k m=_
   simp only [carry,Pm.isList,Pm.grant,value]
   rw [qb7 _ hcl (by omega)]
   rfl
  refine Calls.mono (qje q G.mb G.cb ku xs.length sc sa m.cells S.quota cu w c1 i.mb1 i.ce (by omega) (by omega) hcl (by have:=i.cl.2;omega) hx6) ?_
  rintro e w1 ⟨rfl,hb⟩
  have hq:((S.quota.toNat:Nat):Int)=S.quota:=Int.toNat_of_nonneg (by have:(0:Int)≤(m.cells:Int):=Int.natCast_nonneg _;omega)
  have i1:=i.cells S.quota.toNat (by omega)
  rw [hq]at i1
  exact Post.stepS hnx rfl (Gh.up.refl G) (Post.now (.stop 11 _ _ (i1.cntB (by rw [qaf];exact Nat.le_refl _) hb)))
end
section
open Sc
theorem qpk (f:Nat) (cv:Array Value) (ef:∀args w,(callFunc f args).run prog w=.ok (.enter f args) w) (R:Nat→Value→World→Prop) (Q:Ending→World→Prop) (N:Nat) (x:Value) (w:World) (hx:R N x w)
  (hR:∀k x w,R k x w→(∃b t0 y0 t1 y1 k',k'<k∧x=.iface 246 (.pointer (some ⟨b,0,none⟩))∧w.cell? ⟨b,0,none⟩=some (.iface t0 y0)∧Calls prog f (#[.iface t0 y0]++cv) w (fun e w2=>(e=.returned (.tuple #[])∧w2.cell? ⟨b,1,none⟩=some (.iface t1 y1)∧R k' (.iface t1 y1) w2)∨(∃ps,e=.panicked ps∧Q e w2)))∨
   (x=.iface 186 (.agg #[])∧Q (.returned (.tuple #[])) w)∨(∃t y,t≠246∧t≠186∧x=.iface t y∧∀o,Q (.panicked (stopP (stopV 6))) (w.alloc o))):
  Calls prog 206 #[x,.func (.func f) #[] cv] w Q:=by
 have HX:=hZ hx
 have HR:=hZ hR
 clear hx hR
 go_enter func206,ntmps206
 go_wp2
 go_loopg [0] N (fun k x wr=>R k x wr)
 case atStart=>exact HX.out
 case round=>
  rcases HR.out _ _ _ hrel with⟨b,t0,y0,t1,y1,k',hk,rfl,h0,hc⟩|⟨rfl,hq⟩|⟨t,y,ht,ht',rfl,hq⟩
  ·have ha:∀w,(Instr.typeAssert (.iface 246 (.pointer (some ⟨b,0,none⟩))) 116 246 true).run prog w=.ok (.tuple #[.pointer (some ⟨b,0,none⟩),.bool true]) w:=fun w=>qgj _ w
   have HC:=hZ hc
   clear hc hrel
   go_wp2_with (go_at_fn f;refine HC.out.mono ?_;rintro e w2 (⟨rfl,h1,hr⟩|⟨ps,rfl,hq⟩))
   ·have HR1:=hZ hr
    clear hr
    go_wp2
    go_roundg k'
    case measure=>exact hk
    case rel=>exact HR1.out
   ·exact⟨rfl,hq⟩
  ·have ha:∀w,(Instr.typeAssert (.iface 186 (.agg #[])) 116 246 true).run prog w=.ok (.tuple #[.pointer none,.bool false]) w:=fun w=>qcd _ _ (by decide) w
   have hb:∀w,(binOp .eql 116 (.iface 186 (.agg #[])) (.iface 186 (.agg #[]))).run prog w=.ok (.bool true) w:=fun w=>qkv w
   have HQ:=hZ hq
   clear hq hrel
   go_wp2_with (go_at_call 273;refine(qbi _ _).mono ?_;rintro e w2 ⟨rfl,hww⟩;obtain rfl:=hww.symm)
   go_end0
   exact HQ.out
  ·have ha:∀w,(Instr.typeAssert (.iface t y) 116 246 true).run prog w=.ok (.tuple #[.pointer none,.bool false]) w:=fun w=>qcd _ _ ht w
   have hb:∀w,(binOp .eql 116 (.iface t y) (.iface 186 (.agg #[]))).run prog w=.ok (.bool false) w:=fun w=>qaw _ _ _ _ ht' w
   have HQ:=hZ hq
   clear hq hrel ht ht'
   go_wp2_with (go_at_call 273;refine(qbh _ _).mono ?_;rintro e w2 ⟨rfl,o,rfl⟩)
   exact⟨rfl,HQ.out o⟩
end
section
open Sc
theorem qov (q c mb sb tx:Nat) (x:Value) (t mo n:Int) (w:World)
  (h1:w.cell? ⟨q,0,none⟩=some (.pointer (some ⟨mb,0,none⟩))) (h2:w.cell? ⟨mb,0,none⟩=some (.pointer (some ⟨sb,0,none⟩))) (hM:Mt sb t mo 10 w) (h0:0≤t) (ht:t+1≤mo) (hm:mo≤1000000)
  (hc:w.heap[c]? =some (.cells #[.int .i64 n] 180 (0,0))) (hcs:c≠sb) (hn0:0≤n) (hn1:n≤1000000):
  Calls prog 207 #[.iface tx x,.pointer (some ⟨q,0,none⟩),.pointer (some ⟨c,0,none⟩)] w fun e w'=>e=.returned (.tuple #[])∧Lk ((w.setCell ⟨sb,0,none⟩ (.int .i64 (t+1))).setCell ⟨c,0,none⟩ (.int .i64 (n+1))) w':=by
 have HT:=hZ (qba sb t mo 10 1 w hM h0 ht (by omega) hm)
 have hcc:∀k,((w.setCell ⟨sb,0,none⟩ (.int .i64 (t+1))).drewN k).cell? ⟨c,0,none⟩=some (.int .i64 n):=fun k=>by
  rw [qa6,qag hcs];simp [World.cell?,hc]
 have hfz:w.frozen? ⟨c,0,none⟩=false:=by simp [World.frozen?,hc]
 clear hM hc
 go_enter func207,ntmps207
 go_wp2_with (go_at_call 200;refine HT.out.mono ?_;rintro e w2 ⟨rfl,k,rfl⟩)
 go_end0
 exact⟨rfl,⟨rfl,rfl,rfl,rfl⟩⟩
theorem ql8 (q c mb sb tx:Nat) (x:Value) (t:Int) (w:World)
  (h1:w.cell? ⟨q,0,none⟩=some (.pointer (some ⟨mb,0,none⟩))) (h2:w.cell? ⟨mb,0,none⟩=some (.pointer (some ⟨sb,0,none⟩))) (hM:Mt sb t t 10 w) (h0:0≤t) (hm:t≤1000000):
  Calls prog 207 #[.iface tx x,.pointer (some ⟨q,0,none⟩),.pointer (some ⟨c,0,none⟩)] w fun e w'=>e=.panicked (stopP (stopV 10))∧Below w.heap.size (w.setCell ⟨sb,0,none⟩ (.int .i64 t)) w':=by
 have HT:=hZ (qa1 sb t t 10 1 w hM h0 (by omega) (by omega) (by omega) hm)
 clear hM
 go_enter func207,ntmps207
 go_wp2_with (go_at_call 200;refine HT.out.mono ?_;rintro e w2 ⟨rfl,hb⟩)
 exact⟨rfl,rfl,hb⟩
end
end Go.Proofs.YtldaocpojcfljaaGreatDoor
