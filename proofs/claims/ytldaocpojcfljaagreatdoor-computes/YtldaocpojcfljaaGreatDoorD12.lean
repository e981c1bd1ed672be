import Derived.Test.YtldaocpojcfljaaGreatDoorD11
import Derived.RangeFuncNested
import Derived.RangeFuncBound
import Derived.RangeFuncCalls
import Derived.RangeFuncLeaves
import Derived.Shelf.RegionOpen
import Derived.TacticsInMore
import Derived.LoopNIn
import Derived.LoopIn
import Derived.Sort.LoopGhostIn
import Derived.RangeFuncFrom
set_option maxRecDepth 100000
set_option maxHeartbeats 4000000
namespace Go.Proofs.YtldaocpojcfljaaGreatDoor
open Tryz hiding parts
open Go.RowKit Go.Shelf
section
open Sc
theorem LRow.len{G:Gh}{h:Array Obj}{sa:Option Addr}{sn sc:Nat}{al:List Vl}(hr:LRow G h (.slice sa sn sc) al):sn=al.length/\sn<=1000000:=by
 rcases hr with⟨rfl,a,cap,h⟩|⟨g,o,cap,arr,h,_,_,h2,_⟩
 ·cases h;exact⟨rfl,by omega⟩
 ·cases h;exact⟨rfl,h2⟩
theorem LRow.three{G:Gh}{h:Array Obj}{sa:Option Addr}{sc:Nat}{v u y:Vl}(hr:LRow G h (.slice sa 3 sc) [v,u,y]):∃(g o:Nat) (arr:Array Value) (x0 x1 x2:Value),sa=some ⟨g,o,none⟩/\h[g]? =some (.cells arr 116 (0,0))/\arr[o]? =some x0/\VRep G v x0/\arr[o+1]? =some x1/\VRep G u x1/\arr[o+2]? =some x2/\VRep G y x2:=by
 rcases hr with⟨h,_⟩|⟨g,o,cap,arr,e,hne,hc1,hc2,hg,hgm,hgi,hgf,hx⟩
 ·simp at h
 ·cases e;obtain⟨x,h1,h2⟩:=hx 0 v rfl;obtain⟨y,h3,h4⟩:=hx 1 u rfl;obtain⟨z,h5,h6⟩:=hx 2 _ rfl;exact⟨g,o,arr,x,y,z,rfl,hg,h1,h2,h3,h4,h5,h6⟩
theorem qrr{H:Gh}{w:World}{c lo n sc:Nat}{sa:Option Addr}{xs:List Value}{l:List Vl}(hL:Loose H c)(hcl:c<lo)(ho:w.ownsRow lo 116 1 (.slice sa n sc) n xs)(hvs:VsRep H l xs)(hn:l.length<=1000000):LRow H w.heap (.slice sa n sc) l:=by
 obtain⟨hn1,hrow⟩:=qhh ho;have hl:=hvs.1;rcases hrow with h|⟨g,cur,rfl,hlo,hg,hc,hx⟩
 ·subst h;simp at hl hn1;subst hn1;subst hl;exact .inl ⟨rfl,sa,sc,rfl⟩
 ·by_cases hne:l=[]
  ·subst hne;simp at hl;have:n=0:=by omega
   subst this;exact .inl ⟨rfl,_,sc,rfl⟩
  ·obtain⟨z1,z2,z3⟩:=hL g (by omega);refine .inr ⟨g,0,sc,cur,by rw[hn1,hl],hne,by omega,hn,hg,z2,z1,z3,fun j v hj=>?_⟩;have hjl:j<xs.length:=by rw[<-hl];exact(List.getElem?_eq_some_iff.1 hj).1
   exact⟨xs[j],by simpa using hx j xs[j] (List.getElem?_eq_getElem hjl),hvs.2 j v xs[j] hj (List.getElem?_eq_getElem hjl)⟩
theorem qj1{S:Sub}{n:Nat}(G:Gh)(m:Mc)(w:World)(al:List Vl)(k:List Fr)(q ku:Nat)(cu:Array Value)(sa:Option Addr)(sn sc:Nat)
  (i:Inv G S m w)(hq:G.mbox q)(hk:FRep G k (.func (.func ku) #[] cu))(hr:LRow G w.heap (.slice sa sn sc) al):
  Calls prog 280 (#[.slice sa sn sc,.func (.func ku) #[] cu]++#[bp q]) w (PostS G S (n+1) (.ap (.prim .apply) al k) m):=by
 obtain⟨hsn,hs6⟩:=hr.len;by_cases hlen:sn=2
 ·subst hlen;obtain⟨v,u,rfl⟩:∃v u,al=[v,u]:=by
   match al,hsn with
   | [a,b],_=>exact⟨a,b,rfl⟩
  obtain⟨g,o,arr,x,y,rfl,hc1,hc2,hg,hgm,hgi,hx1,hv,hy1,hu⟩:=hr.two;obtain⟨t,x',rfl⟩:=hv.form;obtain⟨s,y',rfl⟩:=hu.form;have c0:w.cell? ⟨g,o,none⟩=some (.iface t x'):=by simp only[World.cell?,hg];simpa using hx1
  have c1:w.cell? ⟨g,o+1,none⟩=some (.iface s y'):=by simp only[World.cell?,hg];simpa using hy1
  by_cases ht:t=281
  ·subst ht;have hpi:isProc v=true:=by rw[hv.proc_iff];rfl
   have hcar:Sc.next S (.ap (.prim .apply) [v,u] k) m=(match membersOf S false u m with
     |(.error e,m)=>(.stop e,m)
     |(.ok a,m)=>applyTo S v a k m):=by
    show carry S (.prim .apply) [v,u] k m=_;simp[carry,Pm.isList,Pm.kinds,Pm.grant,Kd.ok,hpi];rfl
   obtain⟨b,rfl⟩:∃b,x'=bp b:=by cases hv with|proc v b h=>exact⟨b,rfl⟩
   refine qj2 g o sc q G.mb b ku s y' cu w _ PostS.ends c0 c1 fun w' hw=>?_
   have i':Inv G S m w':=Inv.lk hw (i.below ((Below.refl _ _).alloc (Nat.le_refl _) _));have hL:=i.looses;refine Calls.mono (qhu eg282 (fun m w t0 y0 acc v i hrow hal hv=>qqn i hq hL (Nat.lt_succ_self _) hrow hal hv) u m _ w' i' hu (qfj hw)) ?_;rintro e w2 (⟨l,m',h3,rfl,i2,⟨sa',n',sc',xs,hc,ho,hvs,hlo⟩,hst⟩|⟨vd,m',h3,rfl,hcn⟩)
   ·rw[h3]at hcar;refine .inl ⟨sa',n',sc',rfl,by simp[World.cell?,hc],by rw[i2.cell hq];rfl,fun w3 hw3=>?_⟩;have hsl:(m'.steps:Int)<=S.fuel:=i2.sl.1;have hs2:S.fuel<=20000:=i2.sl.2;have hlr:LRow G w3.heap (.slice sa' n' sc') l:=by rw[hw3.heap];exact qrr hL (Nat.lt_succ_self _) ho hvs (by omega)
    exact Calls.mono (qbr (n:=n) G m' w3 v l k _ sa' n' sc' ku cu (Inv.lk hw3 i2) hv hlr hk) fun e w p=>Post.stepS hcar rfl (Gh.up.refl G) p
   ·rw[h3]at hcar;exact .inr ⟨_,rfl,Post.stepS hcar rfl (Gh.up.refl _) (Post.now (.stop vd m' w2 hcn))⟩
  ·have hpi:isProc v=false:=by rw[hv.proc_iff];simpa using ht
   have hnx:Sc.next S (.ap (.prim .apply) [v,u] k) m=(.stop 6,m):=by
    show carry S (.prim .apply) [v,u] k m=_;simp[carry,Pm.isList,Pm.kinds,Pm.grant,Kd.ok,hpi]
   refine Calls.mono (qh9 g o sc q ku t x' cu w c0 ht) ?_;rintro e w' ⟨rfl,o',rfl⟩;exact Post.stepS hnx rfl (Gh.up.refl G) (Post.now (.stop 6 _ _ (i.cntB (Nat.le_refl _) ((Below.refl _ _).alloc (Nat.le_refl _) _))))
 ·have hnx:Sc.next S (.ap (.prim .apply) al k) m=(.stop 7,m):=by
   show carry S (.prim .apply) al k m=_;have:al.length≠2:=by omega
   simp[carry,Pm.isList,Pm.kinds,this]
  refine Calls.mono (qia sa sn sc q ku cu w hs6 hlen) ?_;rintro e w' ⟨rfl,o',rfl⟩;exact Post.stepS hnx rfl (Gh.up.refl G) (Post.now (.stop 7 _ _ (i.cntB (Nat.le_refl _) ((Below.refl _ _).alloc (Nat.le_refl _) _))))
theorem qm1{S:Sub}{n:Nat}(G:Gh)(m:Mc)(w:World)(al:List Vl)(k:List Fr)(q ku:Nat)(cu:Array Value)(sa:Option Addr)(sn sc:Nat)
  (i:Inv G S m w)(hq:G.mbox q)(hk:FRep G k (.func (.func ku) #[] cu))(hr:LRow G w.heap (.slice sa sn sc) al):
  Calls prog 286 (#[.slice sa sn sc,.func (.func ku) #[] cu]++#[bp q]) w (PostS G S (n+1) (.ap (.prim .wind) al k) m):=by
 obtain⟨hsn,hs6⟩:=hr.len;by_cases hlen:sn=3
 ·subst hlen;obtain⟨v,u,y,rfl⟩:∃v u y,al=[v,u,y]:=by
   match al,hsn with
   | [a,b,c],_=>exact⟨a,b,c,rfl⟩
  obtain⟨g,o,arr,x0,x1,x2,rfl,hg,hx0,hv,hx1,hu,hx2,hy⟩:=hr.three;obtain⟨t0,y0,rfl⟩:=hv.form;obtain⟨t1,y1,rfl⟩:=hu.form;obtain⟨t2,y2,rfl⟩:=hy.form;have c0:w.cell? ⟨g,o,none⟩=some (.iface t0 y0):=by simp only[World.cell?,hg];simpa using hx0
  have c1:w.cell? ⟨g,o+1,none⟩=some (.iface t1 y1):=by simp only[World.cell?,hg];simpa using hx1
  have c2:w.cell? ⟨g,o+2,none⟩=some (.iface t2 y2):=by simp only[World.cell?,hg];simpa using hx2
  have pb:∀{v:Vl} {t:Nat} {y:Value},VRep G v (.iface t y)->t=281->∃b,y=bp b/\QRep G v b:=fun h e=>by
   subst e;cases h with|proc v b h=>exact⟨b,rfl,h⟩
  by_cases ht:t0=281/\t1=281/\t2=281
  ·obtain⟨rfl,rfl,rfl⟩:=ht;have p0:isProc v=true:=by rw[hv.proc_iff];rfl
   have p1:isProc u=true:=by rw[hu.proc_iff];rfl
   have p2:isProc y=true:=by rw[hy.proc_iff];rfl
   have hcar:Sc.next S (.ap (.prim .wind) [v,u,y] k) m=applyTo S v [] (.wind1 v u y::k) m:=by
    show carry S (.prim .wind) [v,u,y] k m=_;simp[carry,Pm.isList,Pm.kinds,Pm.grant,Kd.ok,p0,p1,p2]
   obtain⟨b0,rfl,q0⟩:=pb hv rfl;obtain⟨b1,rfl,q1⟩:=pb hu rfl;obtain⟨b2,rfl,q2⟩:=pb hy rfl;refine qk4 g o sc q G.mb b0 b1 b2 ku cu w _ PostS.ends c0 c1 c2 (by rw[i.cell hq];rfl) fun w' hw=>?_
   have i':=Inv.lk hw i;refine qnd G.mb b0 b1 b2 ku cu w' _ PostS.ends fun w2 hw2=>?_
   have i5:=i'.alloc5 (.cells #[bp G.mb] 107) (.cells #[bp b0] 281) (.cells #[bp b1] 281) (.cells #[bp b2] 281) (.cells #[.func (.func ku) #[] cu] 295);have x5:=i'.x5 (.cells #[bp G.mb] 107) (.cells #[bp b0] 281) (.cells #[bp b1] 281) (.cells #[bp b2] 281) (.cells #[.func (.func ku) #[] cu] 295);have hf:FRep (((((G.add w'.heap.size (.cells #[bp G.mb] 107)).add (w'.heap.size+1) (.cells #[bp b0] 281)).add (w'.heap.size+2) (.cells #[bp b1] 281)).add (w'.heap.size+3) (.cells #[bp b2] 281)).add (w'.heap.size+4) (.cells #[.func (.func ku) #[] cu] 295)) (.wind1 v u y::k)
     (.func (.func 315) #[] #[bp w'.heap.size,bp (w'.heap.size+1),bp (w'.heap.size+3),bp (w'.heap.size+2),bp (w'.heap.size+4)]):=by
    refine .wind1 v u y k _ _ _ _ _ b0 b1 b2 (.func (.func ku) #[] cu) ?_ ?_ ?_ ?_ (Gh.add_at _ _ _) (q0.mono x5.le) (q1.mono x5.le) (q2.mono x5.le) (hk.mono x5.le)
    ·show Gh.I _ _=_;rw[qae _ (by omega),qae _ (by omega),qae _ (by omega),qae _ (by omega)];exact Gh.add_at _ _ _
    ·rw[qae _ (by omega),qae _ (by omega),qae _ (by omega)];exact Gh.add_at _ _ _
    ·rw[qae _ (by omega)];exact Gh.add_at _ _ _
    ·rw[qae _ (by omega),qae _ (by omega)];exact Gh.add_at _ _ _
   have key:=qbr (n:=n) _ m w2 v [] (.wind1 v u y::k) _ none 0 0 315 _ (Inv.lk hw2 i5) (hv.mono x5.le) (.inl ⟨rfl,none,0,rfl⟩) hf;exact Calls.mono key fun e w p=>Post.stepS hcar rfl x5.up p
  ·have hpi:(isProc v&&isProc u&&isProc y)=false:=by rw[hv.proc_iff,hu.proc_iff,hy.proc_iff];simpa[and_assoc]using ht
   have hnx:Sc.next S (.ap (.prim .wind) [v,u,y] k) m=(.stop 6,m):=by
    show carry S (.prim .wind) [v,u,y] k m=_;simp only[carry,Pm.isList,Pm.kinds,Pm.grant,Kd.ok,List.zip_cons_cons,List.zip_nil_right,List.any_cons,List.any_nil,List.length_cons,List.length_nil];cases h1:isProc v <;> cases h2:isProc u <;> cases h3:isProc y <;> simp_all
   refine Calls.mono (qid g o sc q ku t0 t1 t2 y0 y1 y2 cu w c0 c1 c2 ht ⟨fun e=>(pb hv e).imp fun _ h=>h.1,fun e=>(pb hu e).imp fun _ h=>h.1⟩) ?_;rintro e w' ⟨rfl,o',rfl⟩;exact Post.stepS hnx rfl (Gh.up.refl G) (Post.now (.stop 6 _ _ (i.cntB (Nat.le_refl _) ((Below.refl _ _).alloc (Nat.le_refl _) _))))
 ·have hnx:Sc.next S (.ap (.prim .wind) al k) m=(.stop 7,m):=by
   show carry S (.prim .wind) al k m=_;have:al.length≠3:=by omega
   simp[carry,Pm.isList,Pm.kinds,this]
  refine Calls.mono (qie sa sn sc q ku cu w hs6 hlen) ?_;rintro e w' ⟨rfl,o',rfl⟩;exact Post.stepS hnx rfl (Gh.up.refl G) (Post.now (.stop 7 _ _ (i.cntB (Nat.le_refl _) ((Below.refl _ _).alloc (Nat.le_refl _) _))))
theorem qh8{S:Sub}{n:Nat}(G:Gh)(m:Mc)(w:World)(al:List Vl)(k:List Fr)(q ku:Nat)(cu:Array Value)(sa:Option Addr)(sn sc:Nat)
  (i:Inv G S m w)(hq:G.mbox q)(hk:FRep G k (.func (.func ku) #[] cu))(hr:LRow G w.heap (.slice sa sn sc) al):
  Calls prog 284 (#[.slice sa sn sc,.func (.func ku) #[] cu]++#[bp q]) w (PostS G S (n+1) (.ap (.prim .callcc) al k) m):=by
 obtain⟨hsn,hs6⟩:=hr.len;by_cases hlen:sn=1
 ·subst hlen;obtain⟨v,rfl⟩:∃v,al=[v]:=by
   match al,hsn with
   | [a],_=>exact⟨a,rfl⟩
  obtain⟨g,o,arr,x,rfl,hc1,hc2,hg,hgm,hgi,hx1,hv⟩:=hr.one;obtain⟨t,x',rfl⟩:=hv.form;have c0:w.cell? ⟨g,o,none⟩=some (.iface t x'):=by simp only[World.cell?,hg];simpa using hx1
  have cq:w.cell? ⟨q,0,none⟩=some (.pointer (some ⟨G.mb,0,none⟩)):=by rw[i.cell hq];rfl
  have hcl:(m.cells:Int)<=S.quota:=i.cl.1;have hc5:S.quota<=5000:=i.cl.2;by_cases ht:t=281
  ·subst ht;have hpi:isProc v=true:=by rw[hv.proc_iff];rfl
   have hcar:Sc.next S (.ap (.prim .callcc) [v] k) m=(match Sc.cell S m with
     |(.error e,m)=>(.stop e,m)
     |(.ok _,m)=>applyTo S v [.cont m.ids k m.wnd] k {m with ids:=m.ids+1}):=by
    show carry S (.prim .callcc) [v] k m=_;simp[carry,Pm.isList,Pm.kinds,Pm.grant,Kd.ok,hpi];rfl
   obtain⟨b,rfl⟩:∃b,x'=bp b:=by cases hv with|proc v b h=>exact⟨b,rfl⟩
   have hqc:q≠G.cb:=fun e=>by have h1:=i.mi i.m3;have h2:G.I q=some _:=hq;rw[e,h1]at h2;cases h2
   by_cases hce:(m.cells:Int)<S.quota
   ·have hcar2:Sc.next S (.ap (.prim .callcc) [v] k) m=applyTo S v [.cont m.ids k m.wnd] k {m with cells:=m.cells+1,ids:=m.ids+1}:=by
     rw[hcar];simp[Sc.cell,hce]
    have ic:=i.cells (m.cells+1) (by push_cast;omega);have ic:Inv G S {m with cells:=m.cells+1} (w.setCell ⟨G.cb,0,none⟩ (.int .i64 ((m.cells:Int)+1))):=by simpa using ic
    refine qs8 g o sc q G.mb G.cb b ku m.cells S.quota cu w _ PostS.ends (fun v w' p=>p.cell hq) c0 cq i.mb1 i.ce (by omega) (by omega) (by omega) hqc fun w' hw=>?_
    have i':=Inv.lk hw ic;obtain⟨gv,wp,hma,hwr⟩:=i'.ma;refine Calls.mono (qm0 G.mb ku wp cu w' (by simp[World.cell?,hma])) ?_;rintro e w1 ⟨rfl,hw1⟩;have i3:=i'.alloc3 (.cells #[bp G.mb] 107) (.cells #[.func (.func ku) #[] cu] 295) (.cells #[.pointer wp] 117);have x3:=i'.x3 (.cells #[bp G.mb] 107) (.cells #[.func (.func ku) #[] cu] 295) (.cells #[.pointer wp] 117);have hz3:(((w'.alloc (.cells #[bp G.mb] 107)).alloc (.cells #[.func (.func ku) #[] cu] 295)).alloc (.cells #[.pointer wp] 117)).heap.size=w'.heap.size+3:=by simp
    have i4:=i3.newObj (.cells #[.func (.func 312) #[] #[bp w'.heap.size,bp (w'.heap.size+2),bp (w'.heap.size+1)]] 300);have x4:=i3.ext_newObj (.cells #[.func (.func 312) #[] #[bp w'.heap.size,bp (w'.heap.size+2),bp (w'.heap.size+1)]] 300);have a4:=i3.at_newObj (.cells #[.func (.func 312) #[] #[bp w'.heap.size,bp (w'.heap.size+2),bp (w'.heap.size+1)]] 300);rw[hz3]at i4 x4 a4;have x5:=x3.trans x4 (Nat.le_add_right _ _);have i5:=Inv.lk hw1 i4;generalize hH:((((G.add w'.heap.size (.cells #[bp G.mb] 107)).add (w'.heap.size+1) (.cells #[.func (.func ku) #[] cu] 295)).add (w'.heap.size+2) (.cells #[.pointer wp] 117)).add (w'.heap.size+3) (.cells #[.func (.func 312) #[] #[bp w'.heap.size,bp (w'.heap.size+2),bp (w'.heap.size+1)]] 300)).id (w'.heap.size+3)=H at i4 x4 a4 x5 i5;have hb0:H.I w'.heap.size=some (.cells #[bp G.mb] 107 (0,0)):=by
     rw[<-hH];show(Gh.add _ _ _).I _=_;rw[qae _ (by omega),qae _ (by omega),qae _ (by omega)];exact Gh.add_at _ _ _
    have hb1:H.I (w'.heap.size+1)=some (.cells #[.func (.func ku) #[] cu] 295 (0,0)):=by
     rw[<-hH];show(Gh.add _ _ _).I _=_;rw[qae _ (by omega),qae _ (by omega)];exact Gh.add_at _ _ _
    have hb2:H.I (w'.heap.size+2)=some (.cells #[.pointer wp] 117 (0,0)):=by
     rw[<-hH];show(Gh.add _ _ _).I _=_;rw[qae _ (by omega)];exact Gh.add_at _ _ _
    have hb3:H.I (w'.heap.size+3)=some (.cells #[.func (.func 312) #[] #[bp w'.heap.size,bp (w'.heap.size+2),bp (w'.heap.size+1)]] 300 (0,0)):=by
     rw[<-hH];show(Gh.add _ _ _).I _=_;exact Gh.add_at _ _ _
    have hmb:H.mb=G.mb:=x5.le.mb;have hvc:VRep H (.cont m.ids k m.wnd) (.iface 281 (bp (w'.heap.size+3))):=
     .proc _ _ (.cont m.ids k m.wnd _ _ _ _ (.func (.func ku) #[] cu) wp a4 hb3 (by show H.I _=_;rw[hmb];exact hb0) hb2 hb1 (hk.mono x5.le) (hwr.mono x5.le))
    refine⟨_,rfl,by rw[i5.cell (x5.le.mbox hq),hmb];rfl,fun w2 hw2=>?_⟩;have i6:Inv H S _ w2:=Inv.lk hw2 (i5.below ((Below.refl _ _).alloc (Nat.le_refl _) _));have hlr:LRow H w2.heap (.slice (some ⟨w1.heap.size,0,none⟩) 1 1) [.cont m.ids k m.wnd]:=by
     obtain⟨z1,z2,z3⟩:=i5.new_loose;refine .inr ⟨w1.heap.size,0,1,#[.iface 281 (bp (w'.heap.size+3))],rfl,by simp,by simp,by simp,by rw[hw2.heap];exact heap_alloc_new _ _,z2,z1,z3,fun j u hu=>?_⟩;cases j with
     |zero=>simp at hu;subst hu;exact⟨_,rfl,hvc⟩
     |succ j=>simp at hu
    have key:=qbr (n:=n) H _ w2 v [.cont m.ids k m.wnd] k _ _ 1 1 ku cu i6 (hv.mono x5.le) hlr (hk.mono x5.le);rw[hmb]at key;exact Calls.mono key fun e w p=>Post.stepS hcar2 rfl x5.up p
   ·have hm:(m.cells:Int)=S.quota:=by omega
    have hM:Mt G.cb m.cells S.quota 11 w:=i.ce;rw[<-hm]at hM;have hnx:Sc.next S (.ap (.prim .callcc) [v] k) m=(.stop 11,m):=by rw[hcar];simp[Sc.cell,hce]
    refine Calls.mono (qp1 g o sc q G.mb G.cb b ku m.cells cu w c0 cq i.mb1 hM (by omega) (by omega)) ?_;rintro e w' ⟨rfl,hb⟩;have i1:=i.cells m.cells (by omega);exact Post.stepS hnx rfl (Gh.up.refl G) (Post.now (.stop 11 _ _ (i1.cntB (by rw[qaf];exact Nat.le_refl _) hb)))
  ·have hpi:isProc v=false:=by rw[hv.proc_iff];simpa using ht
   have hnx:Sc.next S (.ap (.prim .callcc) [v] k) m=(.stop 6,m):=by
    show carry S (.prim .callcc) [v] k m=_;simp[carry,Pm.isList,Pm.kinds,Pm.grant,Kd.ok,hpi]
   refine Calls.mono (qp2 g o sc q ku t x' cu w c0 ht) ?_;rintro e w' ⟨rfl,o',rfl⟩;exact Post.stepS hnx rfl (Gh.up.refl G) (Post.now (.stop 6 _ _ (i.cntB (Nat.le_refl _) ((Below.refl _ _).alloc (Nat.le_refl _) _))))
 ·have hnx:Sc.next S (.ap (.prim .callcc) al k) m=(.stop 7,m):=by
   show carry S (.prim .callcc) al k m=_;have:al.length≠1:=by omega
   simp[carry,Pm.isList,Pm.kinds,this]
  refine Calls.mono (qp3 sa sn sc q ku cu w hs6 hlen) ?_;rintro e w' ⟨rfl,o',rfl⟩;exact Post.stepS hnx rfl (Gh.up.refl G) (Post.now (.stop 7 _ _ (i.cntB (Nat.le_refl _) ((Below.refl _ _).alloc (Nat.le_refl _) _))))
end
section
open Sc
theorem str_add(a b:ByteArray)(h:a.size+b.size<=9223372036854775807)(w:World):(Op.stringOp .add a b).run prog w=.ok (.string (a++b)) w:=run_string_add_sum w _ _ (by simpa using h)
theorem qnl(r mb:Nat)(a b:ByteArray)(w:World)(Q:Ending->World->Prop)(hQ:∀e w,Q e w->(∃t y,e=.returned (.iface t y))\/∃ps,e=.panicked ps)
  (hl:(a.size:Int)+(b.size:Int)<=1200)(h1:w.cell? ⟨r,0,none⟩=some (.pointer (some ⟨mb,0,none⟩)))(hT:∀w',Lk w w'->Calls prog 213 #[.pointer (some ⟨mb,0,none⟩),.string (a++b)] w' Q):
  Calls prog 211 #[.string a,.string b,.pointer (some ⟨r,0,none⟩)] w Q:=by
 have HT:=hZ hT;have HQ:=hZ hQ;have h0:0<=(a.size:Int):=Int.natCast_nonneg _;have h0':0<=(b.size:Int):=Int.natCast_nonneg _;clear hT hQ;go_enter func211,ntmps211
 go_wp2_with (go_at_call 212;refine(qcm _).mono ?_;rintro e w2 ⟨rfl,hww⟩;obtain rfl:=hww.symm;refine Hid.out ?_)
 refine hZ ?_;have hs:a.size+b.size<=9223372036854775807:=by omega
 clear hl h0 h0';generalize hab:a++b=c at HT;have ha:∀w,(Op.stringOp .add a b).run prog w=.ok (.string c) w:=fun w=>by rw[<-hab];exact str_add a b hs w
 clear hs hab;go_wp2_with (go_at_call 213;refine(HT.out _ (by exact⟨rfl,rfl,rfl,rfl⟩)).mono ?_;intro e w2 hq;rcases HQ.out _ _ hq with⟨t,y,rfl⟩|⟨ps,rfl⟩)
 all_goals first|exact hq|exact⟨rfl,hq⟩|(go_wp2;exact hq)
theorem VRep.as274{G:Gh}{v:Vl}{t:Nat}{y:Value}(h:VRep G v (.iface t y)):(t=182/\∃b:ByteArray,y=.string b/\v=.str b.data.toList/\b.size<=1000000000)\/(t≠182/\Kd.ok .str v=false):=by
 cases h with
 |str s hz=>exact .inl ⟨rfl,s,rfl,rfl,hz⟩
 |proc v b h=>right;exact⟨by decide,by cases h <;> rfl⟩
 |_=>right;exact⟨by decide,rfl⟩
theorem qh4{S:Sub}{n:Nat}(p:Pm)(f:Nat)(cw:Array Value)(ef:Eg f)(hk0:p.kinds=[.str,.str])(hg0:p.grant=0)(hil:p.isList=false)(hc:Plain S p)
  (G:Gh)(m:Mc)(w:World)(al:List Vl)(k:List Fr)(q ku tq:Nat)(cu:Array Value)(sa:Option Addr)(sn sc:Nat)
  (hwork:∀(w':World) (a b:ByteArray),a.size<=1000000000->b.size<=1000000000->Inv G S m w'->Calls prog f (#[.string a,.string b]++cw) w' (WorkOk G S (value S m p [.str a.data.toList,.str b.data.toList])))
  (i:Inv G S m w)(hq:G.I q=some (.cells #[.func (.func f) #[] cw] tq (0,0)))(hk:FRep G k (.func (.func ku) #[] cu))(hr:LRow G w.heap (.slice sa sn sc) al)(he:Ct.ended (go S (n+1) (.ap (.prim p) al k) m).1=true):
  Calls prog 274 (#[.slice sa sn sc,.func (.func ku) #[] cu]++#[bp q]) w (PostS G S (n+1) (.ap (.prim p) al k) m):=by
 obtain⟨hsn,hs6⟩:=hr.len;by_cases hlen:sn=2
 ·subst hlen;obtain⟨v,u,rfl⟩:∃v u,al=[v,u]:=by
   match al,hsn with
   | [a,b],_=>exact⟨a,b,rfl⟩
  obtain⟨g,o,arr,x,y,rfl,hc1,hc2,hg,hgm,hgi,hx1,hv,hy1,hu⟩:=hr.two;obtain⟨t,x',rfl⟩:=hv.form;obtain⟨s,y',rfl⟩:=hu.form;have c0:w.cell? ⟨g,o,none⟩=some (.iface t x'):=by simp only[World.cell?,hg];simpa using hx1
  have c1:w.cell? ⟨g,o+1,none⟩=some (.iface s y'):=by simp only[World.cell?,hg];simpa using hy1
  have stop6:(Kd.ok .str v&&Kd.ok .str u)=false->(t≠182\/((∃a,t=182/\x'=.string a)/\s≠182))->Calls prog 274 (#[.slice (some ⟨g,o,none⟩) 2 sc,.func (.func ku) #[] cu]++#[bp q]) w (PostS G S (n+1) (.ap (.prim p) [v,u] k) m):=fun hko ht=>by
   have hnx:Sc.next S (.ap (.prim p) [v,u] k) m=(.stop 6,m):=by
    show carry S (.prim p) [v,u] k m=_;rw[hc];cases h1:Kd.ok .str v <;> cases h2:Kd.ok .str u <;> simp_all
   refine Calls.mono (qla g o sc q t s x' y' ku cu w c0 c1 ht) ?_;rintro e w' ⟨rfl,o',rfl⟩;exact Post.stepS hnx rfl (Gh.up.refl G) (Post.now (.stop 6 _ _ (i.cntB (Nat.le_refl _) ((Below.refl _ _).alloc (Nat.le_refl _) _))))
  rcases hv.as274 with⟨rfl,a,rfl,rfl,hza⟩|⟨ht,hko⟩
  ·rcases hu.as274 with⟨rfl,b,rfl,rfl,hzb⟩|⟨ht,hko⟩
   ·have hcar:Sc.next S (.ap (.prim p) [.str a.data.toList,.str b.data.toList] k) m=(match value S m p [.str a.data.toList,.str b.data.toList]with
      |(.error e,m)=>(.stop e,m)
      |(.ok v,m)=>(.ret v k,m)):=by
     show carry S (.prim p) _ k m=_;rw[hc];simp[hk0,hg0,hil,Kd.ok] <;> rfl
    obtain⟨kk,ck,hku,egu⟩:=hk.isF;cases hku;refine qne g o sc q f ku a b cw cu w _ ef egu PostS.ends c0 c1 (by rw[i.cell hq];rfl) ?_;intro w' hw;refine Calls.mono (hwork w' a b hza hzb (Inv.lk hw i)) ?_;rintro e w1 (⟨H,v',m',z,e1,rfl,hu,hi,hx'⟩|⟨vd,m',e1,rfl,hcn⟩)
    ·rw[e1]at hcar;rw[qan hcar rfl]at he;obtain⟨t',z',rfl⟩:=hx'.form;refine .inl ⟨t',z',rfl,fun w2 hw2=>?_⟩;exact Calls.mono ((qav S n).2 H m' w2 v' k _ ku cu (Inv.lk hw2 hi) hx' (hk.mono hu.le) he) fun e w p=>Post.stepS hcar rfl hu p
    ·rw[e1]at hcar;exact .inr ⟨⟨_,rfl⟩,Post.stepS hcar rfl (Gh.up.refl _) (Post.now (.stop vd m' w1 hcn))⟩
   ·exact stop6 (by rw[hko];simp) (.inr ⟨⟨a,rfl,rfl⟩,ht⟩)
  ·exact stop6 (by rw[hko];rfl) (.inl ht)
 ·have hnx:Sc.next S (.ap (.prim p) al k) m=(.stop 7,m):=by
   show carry S (.prim p) al k m=_;rw[hc];have:al.length≠2:=by omega
   simp[hk0,hil,this]
  refine Calls.mono (qlb sa sn sc q ku cu w hs6 hlen) ?_;rintro e w' ⟨rfl,o',rfl⟩;exact Post.stepS hnx rfl (Gh.up.refl G) (Post.now (.stop 7 _ _ (i.cntB (Nat.le_refl _) ((Below.refl _ _).alloc (Nat.le_refl _) _))))
theorem qij{S:Sub}(m:Mc)(H:Gh)(w:World)(a b:ByteArray)(r:Nat)(hr:H.mbox r)(hza:a.size<=1000000000)(hzb:b.size<=1000000000)(i:Inv H S m w):Calls prog 211 (#[.string a,.string b]++#[bp r]) w (WorkOk H S (value S m .strAppend [.str a.data.toList,.str b.data.toList])):=by
 have ea:a.data.toList.length=a.size:=Array.length_toList;have eb:b.data.toList.length=b.size:=Array.length_toList;by_cases hl:a.size+b.size<=1200
 ·have hval:value S m .strAppend [.str a.data.toList,.str b.data.toList]=new S m fun m=>(.str (a++b).data.toList,m):=by
   simp only[value,ea,eb,if_pos hl];simp
  rw[hval];exact qnl r H.mb a b w _ (fun e w h=>h.ends) (by omega) (by rw[i.cell hr];rfl) fun w' hw=>qf1 m H w' (a++b) (by simp;omega) (Inv.lk hw i)
 ·have hval:value S m .strAppend [.str a.data.toList,.str b.data.toList]=(.error 8,m):=by
   simp only[value,ea,eb,if_neg hl]
  rw[hval];refine Calls.mono (qik r a b w (by omega) (by omega) (by omega)) ?_;rintro e w' ⟨rfl,o',rfl⟩;exact .inr ⟨8,m,rfl,rfl,i.cntB (Nat.le_refl _) ((Below.refl _ _).alloc (Nat.le_refl _) _)⟩
end
section
open Sc
theorem qii{S:Sub}(m:Mc)(H:Gh)(w:World)(v:Vl)(s:ByteArray)(i:Inv H S m w)(hv:VRep H v (.iface 182 (.string s))):Calls prog 215 (#[.string s]++#[]) w (WorkOk H S (value S m .strLength [v])):=by
 cases hv with
 |str s hz=>
  refine Calls.mono (qqw s w) ?_;rintro e w' ⟨rfl,rfl⟩;have e1:s.data.toList.length=s.size:=Array.length_toList;exact .inl ⟨H,_,m,_,rfl,rfl,Gh.up.refl H,i,by show VRep H (.num (s.data.toList.length:Int)) _;rw[e1];exact .num _ (by omega) (by omega)⟩
theorem qdc(n:Int)(h0:-9223372036854775808<=n)(h1:n<=9223372036854775807)(w:World)(h:GT w):
  Calls prog 218 #[.int .i64 n,.int .i64 10] w fun e w'=>e=.returned (.string ⟨(Lib.itoa n).toArray⟩)/\Below w.heap.size w w':=by
 refine(Tryz.strconv_FormatInt_10 n h0 h1 w h).mono ?_;rintro e w' ⟨rfl,k,os,rfl⟩;exact⟨rfl,Lib.below_grow _ _ (Nat.le_refl _) _ _⟩
theorem qrs(r mb:Nat)(n:Int)(t:ByteArray)(w:World)(Q:Ending->World->Prop)(hQ:∀e w,Q e w->(∃t y,e=.returned (.iface t y))\/∃ps,e=.panicked ps)
  (hS:∀t y w',Q (.returned (.iface t y)) w'->w'.cell? ⟨r,0,none⟩=some (.pointer (some ⟨mb,0,none⟩)))
  (h1:w.cell? ⟨r,0,none⟩=some (.pointer (some ⟨mb,0,none⟩)))(hF:∀w',Lk w w'->Calls prog 218 #[.int .i64 n,.int .i64 10] w' fun e w2=>e=.returned (.string t)/\w2.cell? ⟨r,0,none⟩=some (.pointer (some ⟨mb,0,none⟩))/\∀w3,Lk w2 w3->Calls prog 213 #[.pointer (some ⟨mb,0,none⟩),.string t] w3 Q):
  Calls prog 217 #[.int .i64 n,.pointer (some ⟨r,0,none⟩)] w Q:=by
 have HF:=hZ hF;have HQ:=hZ hQ;have HS:=hZ hS;clear hF hQ hS;go_enter func217,ntmps217
 go_wp2_with (fail)
 go_region_held2 (fun w'=>w'.cell? ⟨r,0,none⟩=some (.pointer (some ⟨mb,0,none⟩))) (first|(exact HS.out _ _ _ hq)|(exact HC1.out.1)|go_keep)
  (first|(go_at_call 218;refine(HF.out _ (by exact⟨rfl,rfl,rfl,rfl⟩)).mono ?_;rintro e w1 ⟨rfl,hc⟩;have HC1:=hZ hc;clear hc)|(go_at_call 213;refine(HC1.out.2 _ (by exact⟨rfl,rfl,rfl,rfl⟩)).mono ?_;intro e w3 hq;rcases HQ.out _ _ hq with⟨t,y,rfl⟩|⟨ps,rfl⟩;rotate_left;(exact⟨rfl,hq⟩)))
 all_goals(go_wp2;exact hq)
theorem qi1{S:Sub}(m:Mc)(H:Gh)(w:World)(v:Vl)(n:Int)(r:Nat)(hr:H.mbox r)(tw:TabW H)(i:Inv H S m w)(hv:VRep H v (.iface 180 (.int .i64 n))):Calls prog 217 (#[.int .i64 n]++#[bp r]) w (WorkOk H S (value S m .numStr [v])):=by
 cases hv with
 |num n h0 h1=>
  refine qrs r H.mb n ⟨(Lib.itoa n).toArray⟩ w _ (fun e w h=>h.ends) ?_ (by rw[i.cell hr];rfl) fun w' hw=>?_
  ·rintro t y w' (⟨L,v',m',x',_,_,hu,hi,_⟩|⟨vd,m',_,h,_⟩)
   ·rw[hi.cell (hu.le.mbox hr),hu.le.mb];rfl
   ·cases h
  ·have i':=Inv.lk hw i;refine Calls.mono (qdc n h0 h1 w' (tw.now i')) ?_;rintro e w2 ⟨rfl,hb⟩;have i2:=i'.below hb;refine⟨rfl,by rw[i2.cell hr];rfl,fun w3 hw3=>?_⟩;have:=qf1 m H w3 ⟨(Lib.itoa n).toArray⟩ (by have h:=Lib.itoa_length_le n h0 h1;show(Lib.itoa n).toArray.size<=_;rw[List.size_toArray];omega) (Inv.lk hw3 i2);simpa[value]using this
end
section
open Sc
theorem qlh(b:ByteArray):(⟨#[34]⟩++b++⟨#[34]⟩:ByteArray)=⟨(Sc.atom (.str b.data.toList)).toArray⟩:=by
 apply ByteArray.ext;simp[Sc.atom,ByteArray.data_append]
theorem qlf{H:Gh}{v:Vl}{x:Value}(w:World)(hv:VRep H v x)(hna:∀id a b,v≠.pair id a b)(hG:GT w):
  Calls prog 157 #[x] w fun e w'=>e=.returned (.string ⟨(Sc.atom v).toArray⟩)/\Below w.heap.size w w':=by
 have HG:=hZ hG;clear hG;cases hv with
 |pair id b v u x y hj hb h1 h2=>exact absurd rfl (hna _ _ _)
 |num n h0 h1=>
  clear hna;have a180:∀w,(Instr.typeAssert (.iface 180 (.int .i64 n)) 116 180 true).run prog w=.ok (.tuple #[.int .i64 n,.bool true]) w:=fun w=>is180 _ w
  have HN:=hZ (And.intro h0 h1);clear h0 h1;go_enter func157,ntmps157
  go_wp2_with (go_at_call 218;refine(qdc n HN.out.1 HN.out.2 _ HG.out).mono ?_;rintro e w1 ⟨rfl,h1⟩;have H1:=hZ h1;clear h1)
  go_ret;exact⟨rfl,H1.out⟩
 |bool b=>
  clear hna;have a180:∀w,(Instr.typeAssert (.iface 181 (.bool b)) 116 180 true).run prog w=.ok (.tuple #[.int .i64 0,.bool false]) w:=fun w=>qbx _ _ (by decide) w
  have a181:∀w,(Instr.typeAssert (.iface 181 (.bool b)) 116 181 true).run prog w=.ok (.tuple #[.bool b,.bool true]) w:=fun w=>is181 _ w
  cases b;all_goals
   go_enter func157,ntmps157
   go_wp2;go_ret;exact⟨rfl,Below.refl _ _⟩
 |str t hz=>
  clear hna;have a180:∀w,(Instr.typeAssert (.iface 182 (.string t)) 116 180 true).run prog w=.ok (.tuple #[.int .i64 0,.bool false]) w:=fun w=>qbx _ _ (by decide) w
  have a181:∀w,(Instr.typeAssert (.iface 182 (.string t)) 116 181 true).run prog w=.ok (.tuple #[.bool false,.bool false]) w:=fun w=>qcf _ _ (by decide) w
  have a182:∀w,(Instr.typeAssert (.iface 182 (.string t)) 116 182 true).run prog w=.ok (.tuple #[.string t,.bool true]) w:=fun w=>is182 _ w
  go_enter func157,ntmps157
  go_wp2;go_ret;refine⟨?_,Below.refl _ _⟩;simp only[Array.getD];exact congrArg (fun x=>Ending.returned (Value.string x)) (qlh t)
 |sym t hz=>
  clear hna;have a180:∀w,(Instr.typeAssert (.iface 183 (.string t)) 116 180 true).run prog w=.ok (.tuple #[.int .i64 0,.bool false]) w:=fun w=>qbx _ _ (by decide) w
  have a181:∀w,(Instr.typeAssert (.iface 183 (.string t)) 116 181 true).run prog w=.ok (.tuple #[.bool false,.bool false]) w:=fun w=>qcf _ _ (by decide) w
  have a182:∀w,(Instr.typeAssert (.iface 183 (.string t)) 116 182 true).run prog w=.ok (.tuple #[.string ⟨#[]⟩,.bool false]) w:=fun w=>qce _ _ (by decide) w
  have a183:∀w,(Instr.typeAssert (.iface 183 (.string t)) 116 183 true).run prog w=.ok (.tuple #[.string t,.bool true]) w:=fun w=>is183 _ w
  clear hz;go_enter func157,ntmps157
  go_wp2;go_ret;exact⟨rfl,Below.refl _ _⟩
 |nil=>
  clear hna;have a180:∀w,(Instr.typeAssert (.iface 186 (.agg #[])) 116 180 true).run prog w=.ok (.tuple #[.int .i64 0,.bool false]) w:=fun w=>qbx _ _ (by decide) w
  have a181:∀w,(Instr.typeAssert (.iface 186 (.agg #[])) 116 181 true).run prog w=.ok (.tuple #[.bool false,.bool false]) w:=fun w=>qcf _ _ (by decide) w
  have a182:∀w,(Instr.typeAssert (.iface 186 (.agg #[])) 116 182 true).run prog w=.ok (.tuple #[.string ⟨#[]⟩,.bool false]) w:=fun w=>qce _ _ (by decide) w
  have a183:∀w,(Instr.typeAssert (.iface 186 (.agg #[])) 116 183 true).run prog w=.ok (.tuple #[.string ⟨#[]⟩,.bool false]) w:=fun w=>qcl _ _ (by decide) w
  have a186:∀w,(Instr.typeAssert (.iface 186 (.agg #[])) 116 186 true).run prog w=.ok (.tuple #[.agg #[],.bool true]) w:=fun w=>is186 _ w
  go_enter func157,ntmps157
  go_wp2;go_ret;exact⟨rfl,(Below.refl _ _).alloc (Nat.le_refl _) _⟩
 |none=>
  clear hna;have a180:∀w,(Instr.typeAssert (.iface 379 (.agg #[])) 116 180 true).run prog w=.ok (.tuple #[.int .i64 0,.bool false]) w:=fun w=>qbx _ _ (by decide) w
  have a181:∀w,(Instr.typeAssert (.iface 379 (.agg #[])) 116 181 true).run prog w=.ok (.tuple #[.bool false,.bool false]) w:=fun w=>qcf _ _ (by decide) w
  have a182:∀w,(Instr.typeAssert (.iface 379 (.agg #[])) 116 182 true).run prog w=.ok (.tuple #[.string ⟨#[]⟩,.bool false]) w:=fun w=>qce _ _ (by decide) w
  have a183:∀w,(Instr.typeAssert (.iface 379 (.agg #[])) 116 183 true).run prog w=.ok (.tuple #[.string ⟨#[]⟩,.bool false]) w:=fun w=>qcl _ _ (by decide) w
  have a186:∀w,(Instr.typeAssert (.iface 379 (.agg #[])) 116 186 true).run prog w=.ok (.tuple #[.agg #[],.bool false]) w:=fun w=>qc0 _ _ (by decide) w
  have a281:∀w,(Instr.typeAssert (.iface 379 (.agg #[])) 116 281 true).run prog w=.ok (.tuple #[.pointer none,.bool false]) w:=fun w=>qcz _ _ (by decide) w
  have a285:∀w,(Instr.typeAssert (.iface 379 (.agg #[])) 116 285 true).run prog w=.ok (.tuple #[.pointer none,.bool false]) w:=fun w=>qjj _ _ (by decide) w
  have a322:∀w,(Instr.typeAssert (.iface 379 (.agg #[])) 116 322 true).run prog w=.ok (.tuple #[.pointer none,.bool false]) w:=fun w=>isnt322 _ _ (by decide) w
  go_enter func157,ntmps157
  go_wp2;go_ret;first|exact⟨rfl,Below.refl _ _⟩|exact⟨rfl,(Below.refl _ _).alloc (Nat.le_refl _) _⟩
 |proc v b hq=>
  clear hna;have a180:∀w,(Instr.typeAssert (.iface 281 (bp b)) 116 180 true).run prog w=.ok (.tuple #[.int .i64 0,.bool false]) w:=fun w=>qbx _ _ (by decide) w
  have a181:∀w,(Instr.typeAssert (.iface 281 (bp b)) 116 181 true).run prog w=.ok (.tuple #[.bool false,.bool false]) w:=fun w=>qcf _ _ (by decide) w
  have a182:∀w,(Instr.typeAssert (.iface 281 (bp b)) 116 182 true).run prog w=.ok (.tuple #[.string ⟨#[]⟩,.bool false]) w:=fun w=>qce _ _ (by decide) w
  have a183:∀w,(Instr.typeAssert (.iface 281 (bp b)) 116 183 true).run prog w=.ok (.tuple #[.string ⟨#[]⟩,.bool false]) w:=fun w=>qcl _ _ (by decide) w
  have a186:∀w,(Instr.typeAssert (.iface 281 (bp b)) 116 186 true).run prog w=.ok (.tuple #[.agg #[],.bool false]) w:=fun w=>qc0 _ _ (by decide) w
  have a281:∀w,(Instr.typeAssert (.iface 281 (bp b)) 116 281 true).run prog w=.ok (.tuple #[bp b,.bool true]) w:=fun w=>qsd _ w
  have hat:Sc.atom v=[35,60,112,114,111,99,101,100,117,114,101,62]:=by cases hq <;> rfl
  rw[hat];clear hq hat;go_enter func157,ntmps157
  go_wp2;go_ret;first|exact⟨rfl,Below.refl _ _⟩|exact⟨rfl,(Below.refl _ _).alloc (Nat.le_refl _) _⟩
 |«seal» id b q v x hj hb hq h=>
  clear hna;have a180:∀w,(Instr.typeAssert (.iface 285 (bp b)) 116 180 true).run prog w=.ok (.tuple #[.int .i64 0,.bool false]) w:=fun w=>qbx _ _ (by decide) w
  have a181:∀w,(Instr.typeAssert (.iface 285 (bp b)) 116 181 true).run prog w=.ok (.tuple #[.bool false,.bool false]) w:=fun w=>qcf _ _ (by decide) w
  have a182:∀w,(Instr.typeAssert (.iface 285 (bp b)) 116 182 true).run prog w=.ok (.tuple #[.string ⟨#[]⟩,.bool false]) w:=fun w=>qce _ _ (by decide) w
  have a183:∀w,(Instr.typeAssert (.iface 285 (bp b)) 116 183 true).run prog w=.ok (.tuple #[.string ⟨#[]⟩,.bool false]) w:=fun w=>qcl _ _ (by decide) w
  have a186:∀w,(Instr.typeAssert (.iface 285 (bp b)) 116 186 true).run prog w=.ok (.tuple #[.agg #[],.bool false]) w:=fun w=>qc0 _ _ (by decide) w
  have a281:∀w,(Instr.typeAssert (.iface 285 (bp b)) 116 281 true).run prog w=.ok (.tuple #[.pointer none,.bool false]) w:=fun w=>qcz _ _ (by decide) w
  have a285:∀w,(Instr.typeAssert (.iface 285 (bp b)) 116 285 true).run prog w=.ok (.tuple #[bp b,.bool true]) w:=fun w=>is285 _ w
  clear hj hb hq h;go_enter func157,ntmps157
  go_wp2;go_ret;first|exact⟨rfl,Below.refl _ _⟩|exact⟨rfl,(Below.refl _ _).alloc (Nat.le_refl _) _⟩
 |sealD id b q1 q2 d e hj hb h1 h2 h=>
  clear hna;have a180:∀w,(Instr.typeAssert (.iface 285 (bp b)) 116 180 true).run prog w=.ok (.tuple #[.int .i64 0,.bool false]) w:=fun w=>qbx _ _ (by decide) w
  have a181:∀w,(Instr.typeAssert (.iface 285 (bp b)) 116 181 true).run prog w=.ok (.tuple #[.bool false,.bool false]) w:=fun w=>qcf _ _ (by decide) w
  have a182:∀w,(Instr.typeAssert (.iface 285 (bp b)) 116 182 true).run prog w=.ok (.tuple #[.string ⟨#[]⟩,.bool false]) w:=fun w=>qce _ _ (by decide) w
  have a183:∀w,(Instr.typeAssert (.iface 285 (bp b)) 116 183 true).run prog w=.ok (.tuple #[.string ⟨#[]⟩,.bool false]) w:=fun w=>qcl _ _ (by decide) w
  have a186:∀w,(Instr.typeAssert (.iface 285 (bp b)) 116 186 true).run prog w=.ok (.tuple #[.agg #[],.bool false]) w:=fun w=>qc0 _ _ (by decide) w
  have a281:∀w,(Instr.typeAssert (.iface 285 (bp b)) 116 281 true).run prog w=.ok (.tuple #[.pointer none,.bool false]) w:=fun w=>qcz _ _ (by decide) w
  have a285:∀w,(Instr.typeAssert (.iface 285 (bp b)) 116 285 true).run prog w=.ok (.tuple #[bp b,.bool true]) w:=fun w=>is285 _ w
  clear hj hb h1 h2 h;go_enter func157,ntmps157
  go_wp2;go_ret;first|exact⟨rfl,Below.refl _ _⟩|exact⟨rfl,(Below.refl _ _).alloc (Nat.le_refl _) _⟩
 |grant n h=>
  clear hna;have a180:∀w,(Instr.typeAssert (.iface 322 (bp (H.K n))) 116 180 true).run prog w=.ok (.tuple #[.int .i64 0,.bool false]) w:=fun w=>qbx _ _ (by decide) w
  have a181:∀w,(Instr.typeAssert (.iface 322 (bp (H.K n))) 116 181 true).run prog w=.ok (.tuple #[.bool false,.bool false]) w:=fun w=>qcf _ _ (by decide) w
  have a182:∀w,(Instr.typeAssert (.iface 322 (bp (H.K n))) 116 182 true).run prog w=.ok (.tuple #[.string ⟨#[]⟩,.bool false]) w:=fun w=>qce _ _ (by decide) w
  have a183:∀w,(Instr.typeAssert (.iface 322 (bp (H.K n))) 116 183 true).run prog w=.ok (.tuple #[.string ⟨#[]⟩,.bool false]) w:=fun w=>qcl _ _ (by decide) w
  have a186:∀w,(Instr.typeAssert (.iface 322 (bp (H.K n))) 116 186 true).run prog w=.ok (.tuple #[.agg #[],.bool false]) w:=fun w=>qc0 _ _ (by decide) w
  have a281:∀w,(Instr.typeAssert (.iface 322 (bp (H.K n))) 116 281 true).run prog w=.ok (.tuple #[.pointer none,.bool false]) w:=fun w=>qcz _ _ (by decide) w
  have a285:∀w,(Instr.typeAssert (.iface 322 (bp (H.K n))) 116 285 true).run prog w=.ok (.tuple #[.pointer none,.bool false]) w:=fun w=>qjj _ _ (by decide) w
  have a322:∀w,(Instr.typeAssert (.iface 322 (bp (H.K n))) 116 322 true).run prog w=.ok (.tuple #[bp (H.K n),.bool true]) w:=fun w=>is322 _ w
  clear h;go_enter func157,ntmps157
  go_wp2;go_ret;first|exact⟨rfl,Below.refl _ _⟩|exact⟨rfl,(Below.refl _ _).alloc (Nat.le_refl _) _⟩
end
section
open Sc
attribute [local go_sem] Oper.semAt_some
theorem qfb{w w':World}(h:Below w.heap.size w w'):w.grownBy w' none:=⟨h.os,h.tape,h.output,h.size,fun i hi _=>h.block i hi⟩
theorem qha{F:Fence}(hd:F.depth=none)(k:Nat):F.room k:=fun d h=>by rw[hd]at h;cases h
theorem RoundIn.anyDepth{F:Fence}(hd:F.depth=none){m m':Nat}{P:Program}{l:Nat}{f:FuncId}{tmps:Array Value}{assign body:Code}{w:World}{R:Ending->World->Prop}
  (h:RoundIn F m P l f tmps assign body w R):RoundIn F m' P l f tmps assign body w R:=⟨h.1,fun c cs _=>h.2 c cs (qha hd _)⟩
theorem YieldAt.anyDepth{F:Fence}(hd:F.depth=none){m:Nat}(m':Nat){P:Program}{l:Nat}{args:Array Value}{W:World}{R:Ending->World->Prop}(h:YieldAt F m P l args W R):YieldAt F m' P l args W R:=by
 obtain⟨fn,tmps,assign,body,hy,hR⟩:=h;exact⟨fn,tmps,assign,body,hy,RoundIn.anyDepth hd hR⟩
structure Yl (l hi N:Nat) (J Jx:List UInt8->World->Prop):Prop where
 y:∀m pre (x:UInt8) W,J pre W->pre.length<N->YieldAt Fence.wide m prog l #[.int .u8 (x.toNat:Int)] W fun e W'=>(e=.returned (.bool true)/\J (pre++[x]) W'/\Below hi W W')\/(e=.returned (.bool false)/\Jx (pre++[x]) W')
 grow:∀pre W W',J pre W->W.grownBy W' none->J pre W'
def Yd(hi:Nat)(J Jx:List UInt8->World->Prop)(w:World)(pre t:List UInt8)(e:Ending)(W':World):Prop:=
 (e=.returned (.bool true)/\J (pre++t) W'/\Below hi w W')\/(e=.returned (.bool false)/\∃q,q<+:t/\Jx (pre++q) W')
theorem qg4(s:ByteArray)(k:Nat)(h:k<s.size):s.data.toList.take (k+1)=s.data.toList.take k++[s[k]]:=by
 rw[List.take_succ_eq_append_getElem (by simpa using h)];rfl
theorem qds(l hi N:Nat)(J Jx:List UInt8->World->Prop)(hY:Yl l hi N J Jx)(w:World)(s:ByteArray)(pre:List UInt8)(n:Nat)(W:World)(hK:Below hi w W)(hJ:J pre W)(hN:pre.length+s.size<=N)(hN2:s.size<=2000000000):
  CallsIn Fence.wide n prog 156 #[.string s,.func (.yield l) #[] #[]] W fun e W'=>Yd hi J Jx w pre s.data.toList e W':=by
 have hdd:∀k:Nat,(Fence.wide.depth.isSome=true->1<=k):=fun k h=>by cases h
 have HY:=hZ hY;have HK:=hZ hK;have HJ:=hZ hJ;clear hY hK hJ;refine callsIn_of_wp func156 rfl trivial ?_ rfl;simp only[ntmps156,List.size_toArray,List.length_cons,List.length_nil,Nat.reduceAdd,Nat.reduceSub,Array.replicate_succ,Array.replicate_zero,List.push_toArray,List.append_toArray,List.nil_append,List.cons_append]
 gi_wp2
 gi_loopw [8] (fun i wr=>∃k:Nat,k<=s.size/\i=.int .i64 (k:Int)/\J (pre++s.data.toList.take k) wr/\Below hi w wr) (fun i _=>s.size-(intOf i).toNat)
 case atStart=>exact⟨0,Nat.zero_le _,rfl,by simpa using HJ.out,HK.out⟩
 case round=>
  obtain⟨k,hk,rfl,hJk,hKk⟩:=hrel;have HJk:=hZ hJk;have HKk:=hZ hKk;clear hJk hKk;by_cases hlt:k<s.size
  ·have hki:(k:Int)<(s.size:Int):=by omega
   have hyy:=YieldAt.mono (R':=fun e W'=>(e=.returned (.bool true)/\J (pre++s.data.toList.take (k+1)) W'/\Below hi w W')\/(e=.returned (.bool false)/\Jx (pre++s.data.toList.take (k+1)) W'))
    (HY.out.y (n-1) _ s[k] wr HJk.out (by
     have:s.data.toList.length=s.size:=by simp
     simp;omega)) fun e W' h=>h.elim
     (fun⟨he,hj,hk'⟩=>.inl ⟨he,by rw[qg4 s k hlt,<-List.append_assoc];exact hj,HKk.out.trans hk'⟩) (fun⟨he,hj⟩=>.inr ⟨he,by rw[qg4 s k hlt,<-List.append_assoc];exact hj⟩)
   obtain⟨fn,tmps,assign,body,hy,hR⟩:=hyy
   gi_wp2_with ((try refine⟨hdd _,?_⟩);refine hR.mono ?_;clear hR;rintro e W2 (⟨rfl,hJ2,hK2⟩|⟨rfl,hx2⟩))
   ·exact⟨⟨k+1,by omega,by first|rfl|go_num,hJ2,hK2⟩,by simp[intOf];omega⟩
   ·go_ret;exact .inr ⟨rfl,_,List.take_prefix _ _,hx2⟩
  ·have hke:k=s.size:=by omega
   have HKe:=hZ hke;have hki:¬((k:Int)<(s.size:Int)):=by omega
   clear hke
   gi_wp2
   go_ret;have:=HJk.out;rw[List.take_of_length_le (by rw[HKe.out];simp)]at this;exact .inl ⟨rfl,this,HKk.out⟩
end
section
open Sc
attribute [local go_sem] Oper.semAt_some
def WrSaid(l hi N:Nat)(J Jx:List UInt8->World->Prop)(H:Gh)(w:World)(v:Vl):Prop:=∀(n:Nat) (x:Value) (pre:List UInt8) (W:World),VRep H v x->Below hi w W->J pre W->pre.length+(Sc.wr v).length<=N->
 CallsIn Fence.wide n prog 90 #[x,.func (.yield l) #[] #[]] W fun e W'=>Yd hi J Jx w pre (Sc.wr v) e W'
def Im(H:Gh)(hi:Nat)(w:World):Prop:=∀b c t,H.I b=some (.cells c t (0,0))->w.heap[b]? =some (.cells c t (0,0))/\b<hi
theorem Im.cell{H:Gh}{hi:Nat}{w W:World}(h:Im H hi w)(hb:Below hi w W){b:Nat}{c:Array Value}{t:Nat}(hi':H.I b=some (.cells c t (0,0)))(o:Nat):W.cell? ⟨b,o,none⟩=c[o]?:=by
 obtain⟨h1,h2⟩:=h b c t hi';simp[World.cell?,hb.block b h2,h1]
theorem GT.below{hi:Nat}{w W:World}(h:GT w)(hb:Below hi w W)(h6:6<=hi):GT W:=h.keep (hb.block 0 (by omega))
theorem VRep.wr_atom{H:Gh}{v:Vl}{t:Nat}{y:Value}(h:VRep H v (.iface t y))(ht:t≠246):Sc.wr v=Sc.atom v/\(Sc.atom v).length<=2000000000/\∀id a b,v≠.pair id a b:=by
 cases h with
 |pair=>exact absurd rfl ht
 |num n h0 h1=>exact⟨rfl,by have:=Lib.itoa_length_le n h0 h1;simp only[Sc.atom];omega,fun _ _ _=>nofun⟩
 |bool b=>exact⟨rfl,by cases b <;> decide,fun _ _ _=>nofun⟩
 |str s hz=>
  have e1:s.data.toList.length=s.size:=Array.length_toList;refine⟨rfl,?_,fun _ _ _=>nofun⟩;simp only[Sc.atom,List.length_cons,List.length_append,List.length_nil];omega
 |sym s hz=>
  have e1:s.data.toList.length=s.size:=Array.length_toList;refine⟨rfl,?_,fun _ _ _=>nofun⟩;simp only[Sc.atom];omega
 |proc v b h=>cases h <;> exact⟨rfl,by simp[Sc.atom],fun _ _ _=>nofun⟩
 |_=>exact⟨rfl,by simp[Sc.atom],fun _ _ _=>nofun⟩
theorem VRep.tl_other{H:Gh}{v:Vl}{t:Nat}{y:Value}(h:VRep H v (.iface t y))(ht:t≠246)(ht':t≠186):Sc.tl v=[32,46,32]++(Sc.wr v++[41]):=by
 cases h with
 |pair=>exact absurd rfl ht
 |nil=>exact absurd rfl ht'
 |proc v b h=>cases h <;> rfl
 |_=>rfl
theorem qk2(l hi N:Nat)(J Jx:List UInt8->World->Prop)(H:Gh)(w:World)(hY:Yl l hi N J Jx)(hG:GT w)(h6:6<=hi)(hhi:hi<=w.heap.size)(v:Vl)(t:Nat)(y:Value)(hv:VRep H v (.iface t y))(ht:t≠246):∀(n:Nat) (pre:List UInt8) (W:World),Below hi w W->J pre W->pre.length+(Sc.wr v).length<=N->
 CallsIn Fence.wide n prog 90 #[.iface t y,.func (.yield l) #[] #[]] W fun e W'=>Yd hi J Jx w pre (Sc.wr v) e W':=by
 intro n pre W hK hJ hN;obtain⟨hwa,hal,hnp⟩:=hv.wr_atom ht;rw[hwa]at hN|-;have hdd:∀k:Nat,(Fence.wide.depth.isSome=true->1<=k):=fun k h=>by cases h
 have HY:=hZ hY;have HK:=hZ hK;have HJ:=hZ hJ;have HT:=hZ (qlf W hv hnp (hG.below hK h6));have HSz:Hid (hi<=W.heap.size):=Nat.le_trans hhi hK.size;have hW:∀W1,Below W.heap.size W W1->CallsIn Fence.wide (n-1) prog 156 #[.string ⟨(Sc.atom v).toArray⟩,.func (.yield l) #[] #[]] W1 fun e W'=>Yd hi J Jx w pre (Sc.atom v) e W':=by
  intro W1 hb;have h1:Below hi w W1:=HK.out.trans (hb.mono HSz.out);have:=qds l hi N J Jx HY.out w ⟨(Sc.atom v).toArray⟩ pre (n-1) W1 h1 (HY.out.grow pre W W1 HJ.out (qfb hb)) (by simpa[ByteArray.size]using hN) (by simpa[ByteArray.size]using hal);simpa using this
 have HW:=hZ hW;have a246:∀w,(Instr.typeAssert (.iface t y) 116 246 true).run prog w=.ok (.tuple #[.pointer none,.bool false]) w:=fun w=>qcd _ _ ht w
 clear hY hK hJ hv hG hW hnp ht;refine callsIn_of_wp func90 rfl trivial ?_ rfl;simp only[ntmps90,List.size_toArray,List.length_cons,List.length_nil,Nat.reduceAdd,Nat.reduceSub,Array.replicate_succ,Array.replicate_zero,List.push_toArray,List.append_toArray,List.nil_append,List.cons_append]
 gi_wp2_with (first
  |(refine⟨trivial,hdd _,?_⟩;gi_at_call 157;refine(callsIn_wide.2 HT.out).mono ?_;rintro e W1 ⟨rfl,hb1⟩;have HB1:=hZ hb1;clear hb1)
  |(refine⟨trivial,hdd _,?_⟩;gi_at_call 156;refine(HW.out _ HB1.out).mono ?_;rintro e W2 (⟨rfl,hj,hk⟩|⟨rfl,hq⟩)))
 ·go_ret;exact .inl ⟨rfl,hj,hk⟩
 ·go_ret;exact .inr ⟨rfl,hq⟩
def PRel(H:Gh)(hi:Nat)(J:List UInt8->World->Prop)(w:World)(pre T:List UInt8)(B gf:Nat)(p:Value)(wr:World):Prop:=
 ∃(g:Nat) (x y:Value) (b:Vl) (done:List UInt8),gf=SizeOf.sizeOf b/\p=.pointer (some ⟨g,0,none⟩)/\H.I g=some (.cells #[x,y] 252 (0,0))/\VRep H b y/\J (pre++done) wr/\Below hi w wr/\done++Sc.tl b=T/\SizeOf.sizeOf b<=B
theorem qfz(l hi N:Nat)(J Jx:List UInt8->World->Prop)(H:Gh)(w:World)(hY:Yl l hi N J Jx)(_h6:6<=hi)(hhi:hi<=w.heap.size)(hIm:Im H hi w)(id:Nat)(a b:Vl)
  (IH:∀t':Vl,SizeOf.sizeOf t'<=SizeOf.sizeOf a+SizeOf.sizeOf b->WrSaid l hi N J Jx H w t')
  (n:Nat)(g:Nat)(x y:Value)(pre:List UInt8)(W:World)(hh:H.I g=some (.cells #[x,y] 252 (0,0)))(ha:VRep H a x)(hb:VRep H b y)(hK:Below hi w W)(hJ:J pre W)
  (hN:pre.length+(Sc.wr (.pair id a b)).length<=N):
  CallsIn Fence.wide n prog 155 #[.pointer (some ⟨g,0,none⟩),.func (.yield l) #[] #[]] W fun e W'=>Yd hi J Jx w pre (Sc.wr (.pair id a b)) e W':=by
 have hdd:∀k:Nat,(Fence.wide.depth.isSome=true->1<=k):=fun k h=>by cases h
 have hT:Sc.wr (.pair id a b)=40::(Sc.wr a++Sc.tl b):=rfl;rw[hT]at hN|-;simp only[List.length_cons,List.length_append]at hN;obtain⟨tx,px,rfl⟩:=ha.form;have hy1:YieldAt Fence.wide (n-1) prog l #[.int .u8 40] W fun e W1=>
   (e=.returned (.bool true)/\W1.cell? ⟨g,0,none⟩=some (.iface tx px)/\CallsIn Fence.wide (n-1) prog 90 #[.iface tx px,.func (.yield l) #[] #[]] W1 fun e W2=>Yd hi J Jx w (pre++[40]) (Sc.wr a) e W2)\/(e=.returned (.bool false)/\Jx (pre++[40]) W1):=
  YieldAt.mono (hY.y (n-1) pre 40 W hJ (by omega)) fun e W1 h=>h.elim
   (fun⟨he,hj,hk⟩=>.inl ⟨he,by rw[hIm.cell (hK.trans hk) hh];rfl,IH a (by omega) (n-1) _ (pre++[40]) W1 ha (hK.trans hk) hj (by simp;omega)⟩) .inr
 have HY:=hZ hY;have HI:=hZ IH;have HH:=hZ hh;have HB:=hZ hb;have HIm:=hZ hIm;clear hY IH hh ha hb hK hJ hIm;obtain⟨fn,tmps,assign,body,hy,hR⟩:=hy1;refine callsIn_of_wp func155 rfl trivial ?_ rfl;simp only[ntmps155,List.size_toArray,List.length_cons,List.length_nil,Nat.reduceAdd,Nat.reduceSub,Array.replicate_succ,Array.replicate_zero,List.push_toArray,List.append_toArray,List.nil_append,List.cons_append]
 gi_wp2_with (first
  |((try refine⟨hdd _,?_⟩);refine hR.mono ?_;clear hR;rintro e W1 (⟨rfl,c1,hC1⟩|⟨rfl,hx1⟩))
  |(refine⟨trivial,hdd _,?_⟩;gi_at_call 90;refine hC1.mono ?_;clear hC1;rintro e W2 (⟨rfl,hj2,hk2⟩|⟨rfl,q,hq,hx2⟩)))
 rotate_left
 ·go_ret;obtain⟨r,hr'⟩:=hq;exact .inr ⟨rfl,40::q,⟨r++Sc.tl b,by rw[<-hr'];simp⟩,by simpa using hx2⟩
 ·refine⟨trivial,?_⟩
  gi_wp2
  go_ret;exact .inr ⟨rfl,[40],⟨_,rfl⟩,hx1⟩
 have HJ2:=hZ hj2;have HK2:=hZ hk2;clear hj2 hk2 c1 hy
 gi_loopg [0] (SizeOf.sizeOf b) (PRel H hi J w pre (40::(Sc.wr a++Sc.tl b)) (SizeOf.sizeOf b))
 case atStart=>exact⟨g,_,y,b,40::Sc.wr a,rfl,rfl,HH.out,HB.out,by simpa using HJ2.out,HK2.out,by simp,Nat.le_refl _⟩
 case round=>
  obtain⟨g1,x1,y1,b1,done,hgk,rfl,hh1,hb1,hj1,hk1,hdone,hsz1⟩:=hrel;have hlen:done.length+(Sc.tl b1).length=1+((Sc.wr a).length+(Sc.tl b).length):=by have:=congrArg List.length hdone;simp at this;omega
  have cy:wr.cell? ⟨g1,1,none⟩=some y1:=by rw[HIm.out.cell hk1 hh1];rfl
  have HDn:=hZ hdone;have HJ1:=hZ hj1;have HK1:=hZ hk1;have HGk:=hZ hgk;clear hdone hj1 hk1 hgk;obtain⟨t1,p1,rfl⟩:=hb1.form;by_cases ht:t1=246
  ·subst ht;cases hb1 with
   |pair id' g2 a' b' x2 y2 hj' hh2 ha2 hb2=>
    obtain⟨t2,p2,rfl⟩:=ha2.form;have htl:Sc.tl (.pair id' a' b')=32::(Sc.wr a'++Sc.tl b'):=rfl;have hsz:SizeOf.sizeOf (Vl.pair id' a' b')=1+id'+SizeOf.sizeOf a'+SizeOf.sizeOf b':=by simp
    rw[htl]at hlen;rw[hsz]at hsz1;simp only[List.length_cons,List.length_append]at hlen;have hy1:YieldAt Fence.wide (n-1) prog l #[.int .u8 32] wr fun e W1=>
      (e=.returned (.bool true)/\W1.cell? ⟨g2,0,none⟩=some (.iface t2 p2)/\CallsIn Fence.wide (n-1) prog 90 #[.iface t2 p2,.func (.yield l) #[] #[]] W1 fun e W2=>Yd hi J Jx w (pre++(done++[32])) (Sc.wr a') e W2)\/(e=.returned (.bool false)/\Jx (pre++(done++[32])) W1):=
     YieldAt.mono (HY.out.y (n-1) (pre++done) 32 wr HJ1.out (by simp;omega)) fun e W1 h=>h.elim
      (fun⟨he,hj,hk⟩=>.inl ⟨he,by rw[HIm.out.cell (HK1.out.trans hk) hh2];rfl,HI.out a' (by omega) (n-1) _ (pre++(done++[32])) W1 ha2 (HK1.out.trans hk) (by rw[<-List.append_assoc];exact hj) (by simp;omega)⟩)
      (fun⟨he,hx⟩=>.inr ⟨he,by rw[<-List.append_assoc];exact hx⟩)
    obtain⟨fn,tmps,assign,body,hy,hR⟩:=hy1;have HB2:=hZ hb2;have HH2:=hZ hh2;have a246:∀w,(Instr.typeAssert (.iface 246 (bp g2)) 116 246 true).run prog w=.ok (.tuple #[bp g2,.bool true]) w:=fun w=>qgj _ w
    clear hh1 ha2 hb2 hh2 hj'
    gi_wp2_with (first
     |((try refine⟨hdd _,?_⟩);refine hR.mono ?_;clear hR;rintro e W1 (⟨rfl,c1,hC1⟩|⟨rfl,hx1⟩))
     |(refine⟨trivial,hdd _,?_⟩;gi_at_call 90;refine hC1.mono ?_;clear hC1;rintro e W2 (⟨rfl,hj2,hk2⟩|⟨rfl,q,hq,hx2⟩)))
    ·gi_roundg (SizeOf.sizeOf b')
     case measure=>rw[HGk.out,hsz];omega
     case rel=>
      refine⟨g2,_,y2,b',done++(32::Sc.wr a'),rfl,rfl,HH2.out,HB2.out,by simpa using hj2,hk2,?_,by omega⟩;rw[<-HDn.out,htl];simp
    ·go_ret;obtain⟨r,hr'⟩:=hq;refine .inr ⟨rfl,done++(32::q),⟨r++Sc.tl b',?_⟩,by simpa using hx2⟩;rw[<-HDn.out,htl,<-hr'];simp
    ·refine⟨trivial,?_⟩
     gi_wp2
     go_ret;refine .inr ⟨rfl,done++[32],⟨Sc.wr a'++Sc.tl b',?_⟩,hx1⟩;rw[<-HDn.out,htl];simp
  ·have a246:∀w,(Instr.typeAssert (.iface t1 p1) 116 246 true).run prog w=.ok (.tuple #[.pointer none,.bool false]) w:=fun w=>qcd _ _ ht w
   by_cases ht':t1=186
   ·subst ht';cases hb1 with
    |nil=>
     have htl:Sc.tl .nil=[41]:=rfl;rw[htl]at hlen;simp only[List.length_cons,List.length_nil]at hlen;have hy3:YieldAt Fence.wide (n-1) prog l #[.int .u8 41] (wr.alloc (.cells #[] 186)) fun e W3=>(e=.returned (.bool true)/\J (pre++done++[41]) W3/\Below hi w W3)\/(e=.returned (.bool false)/\Jx (pre++done++[41]) W3):=
      YieldAt.mono (HY.out.y (n-1) _ 41 _ (HY.out.grow _ _ _ HJ1.out (World.grownBy_alloc _ _ _)) (by simp;omega)) fun e W3 h=>h.elim (fun⟨he,h1,h2⟩=>.inl ⟨he,h1,(HK1.out.trans ((Below.refl _ _).alloc (Nat.le_trans hhi HK1.out.size) _)).trans h2⟩) .inr
     obtain⟨fn,tmps,assign,body,hy,hR⟩:=hy3;have a186:∀w,(Instr.typeAssert (.iface 186 (.agg #[])) 116 186 true).run prog w=.ok (.tuple #[.agg #[],.bool true]) w:=fun w=>is186 _ w
     clear hh1 ht
     gi_wp2_with ((try refine⟨hdd _,?_⟩);refine hR.mono ?_;clear hR;rintro e W3 (⟨rfl,hj3,hk3⟩|⟨rfl,hx3⟩))
     ·go_ret;rw[<-HDn.out,htl];exact .inl ⟨rfl,by simpa using hj3,hk3⟩
     ·go_ret;rw[<-HDn.out,htl];exact .inr ⟨rfl,_,List.prefix_refl _,by simpa using hx3⟩
   ·have htl:=hb1.tl_other ht ht';rw[htl]at hlen;simp only[List.length_cons,List.length_append,List.length_nil]at hlen;have hw1:=qds l hi N J Jx HY.out w ⟨#[32,46,32]⟩ (pre++done) (n-1) wr HK1.out HJ1.out (by simp[ByteArray.size];omega) (by decide);have hw2:∀W1,J (pre++done++[32,46,32]) W1->Below hi w W1->CallsIn Fence.wide (n-1) prog 90 #[.iface t1 p1,.func (.yield l) #[] #[]] W1 fun e W2=>Yd hi J Jx w (pre++done++[32,46,32]) (Sc.wr b1) e W2:=
     fun W1 hj hk=>HI.out b1 (by omega) (n-1) _ _ W1 hb1 hk hj (by simp;omega)
    have hy3:∀W2,J (pre++done++[32,46,32]++Sc.wr b1) W2->Below hi w W2->YieldAt Fence.wide (n-1) prog l #[.int .u8 41] W2 fun e W3=>(e=.returned (.bool true)/\J (pre++done++[32,46,32]++Sc.wr b1++[41]) W3/\Below hi w W3)\/(e=.returned (.bool false)/\Jx (pre++done++[32,46,32]++Sc.wr b1++[41]) W3):=
     fun W2 hj hk=>YieldAt.mono (HY.out.y (n-1) _ 41 W2 hj (by simp;omega)) fun e W3 h=>h.elim (fun⟨he,h1,h2⟩=>.inl ⟨he,h1,hk.trans h2⟩) .inr
    have hfin:40::(Sc.wr a++Sc.tl b)=done++([32,46,32]++(Sc.wr b1++[41])):=by rw[<-HDn.out,htl]
    have HFin:=hZ hfin;obtain⟨u,hu⟩:∃u,u=Sc.wr b1:=⟨_,rfl⟩;rw[<-hu]at hw2 hy3 hlen HFin;have HW2:=hZ hw2;have HY3:=hZ hy3;have a186:∀w,(Instr.typeAssert (.iface t1 p1) 116 186 true).run prog w=.ok (.tuple #[.agg #[],.bool false]) w:=fun w=>qc0 _ _ ht' w
    clear hh1 hb1 hfin hw2 hy3 hu htl ht ht'
    gi_wp2_with (first
     |(refine⟨trivial,hdd _,?_⟩;gi_at_call 156;refine hw1.mono ?_;clear hw1;rintro e W1 (⟨rfl,hj1,hk1⟩|⟨rfl,q,hq,hx1⟩))
     |(refine⟨trivial,hdd _,?_⟩;gi_at_call 90;refine(HW2.out _ hj1 hk1).mono ?_;rintro e W2 (⟨rfl,hj2,hk2⟩|⟨rfl,q,hq,hx2⟩);obtain⟨fn,tmps,assign,body,hy,hR⟩:=HY3.out _ hj2 hk2)
     |((try refine⟨hdd _,?_⟩);refine hR.mono ?_;clear hR;rintro e W3 (⟨rfl,hj3,hk3⟩|⟨rfl,hx3⟩)))
    ·go_ret;rw[HFin.out];exact .inl ⟨rfl,by simpa using hj3,hk3⟩
    ·go_ret;rw[HFin.out];exact .inr ⟨rfl,_,List.prefix_refl _,by simpa using hx3⟩
    ·refine⟨fun _ h=>(by cases h),?_⟩
     gi_wp2
     go_ret;rw[HFin.out];obtain⟨r,hr'⟩:=hq;exact .inr ⟨rfl,done++([32,46,32]++q),⟨r++[41],by rw[<-hr'];simp⟩,by simpa using hx2⟩
    ·refine⟨trivial,?_⟩
     gi_wp2
     refine⟨fun _ h=>(by cases h),?_⟩
     gi_wp2
     go_ret;rw[HFin.out];obtain⟨r,hr'⟩:=hq;exact .inr ⟨rfl,done++q,⟨r++(u++[41]),by rw[show([32,46,32]:List UInt8)=q++r from hr'.symm];simp⟩,by simpa using hx1⟩
theorem qm8(l hi N:Nat)(J Jx:List UInt8->World->Prop)(H:Gh)(w:World)(hY:Yl l hi N J Jx)(hG:GT w)(h6:6<=hi)(hhi:hi<=w.heap.size)(hIm:Im H hi w):
  ∀(k:Nat) (v:Vl),SizeOf.sizeOf v<=k->WrSaid l hi N J Jx H w v:=by
 intro k;induction k with
 |zero=>
  intro t ht n x pre W hv hK hJ hN;have:0<SizeOf.sizeOf t:=by cases t <;> simp <;> omega
  omega
 |succ k ih=>
  intro v hs n x pre W hv hK hJ hN;obtain⟨t,y,rfl⟩:=hv.form;by_cases ht:t=246
  ·subst ht;cases hv with
   |pair id g a b x y hj hh ha hb=>
    have hs:SizeOf.sizeOf a+SizeOf.sizeOf b<=k:=by simp at hs;omega
    have hdd:∀k:Nat,(Fence.wide.depth.isSome=true->1<=k):=fun k h=>by cases h
    have hP:=qfz l hi N J Jx H w hY h6 hhi hIm id a b (fun t' h=>ih t' (by omega)) (n-1) g x y pre W hh ha hb hK hJ hN;have a246:∀w,(Instr.typeAssert (.iface 246 (bp g)) 116 246 true).run prog w=.ok (.tuple #[bp g,.bool true]) w:=fun w=>qgj _ w
    clear ih hY;refine callsIn_of_wp func90 rfl trivial ?_ rfl;simp only[ntmps90,List.size_toArray,List.length_cons,List.length_nil,Nat.reduceAdd,Nat.reduceSub,Array.replicate_succ,Array.replicate_zero,List.push_toArray,List.append_toArray,List.nil_append,List.cons_append]
    gi_wp2_with (refine⟨trivial,hdd _,?_⟩;gi_at_call 155;refine hP.mono ?_;clear hP;rintro e W2 (⟨rfl,hj,hk⟩|⟨rfl,hq⟩))
    ·go_ret;exact .inl ⟨rfl,hj,hk⟩
    ·go_ret;exact .inr ⟨rfl,hq⟩
  ·exact qk2 l hi N J Jx H w hY hG h6 hhi v t y hv ht n pre W hK hJ hN
end
section
open Sc
attribute [local go_sem] Oper.semAt_some
theorem qfy(H:Gh)(hi Bt n:Nat)(v:Vl)(t:Nat)(y:Value)(w:World)(hc:w.heap[Bt]? =some (.cells #[.iface t y] 116 (0,0)))(hv:VRep H v (.iface t y))(hG:GT w)(h6:6<=hi)(hhi:hi<=w.heap.size)(hIm:Im H hi w):
  SeqStopsK Fence.wide n prog 89 #[.pointer (some ⟨Bt,0,none⟩)] (fun x:UInt8=>#[Value.int .u8 (x.toNat:Int)]) (Below hi) (fun ys=>ys=Sc.wr v) (fun pre=>pre<+:Sc.wr v) (Sc.wr v).length w:=by
 intro l J Jx W hW hJ _ hY h0;have hdd:∀k:Nat,(Fence.wide.depth.isSome=true->1<=k):=fun k h=>by cases h
 have hYl:Yl l hi (Sc.wr v).length J Jx:=⟨fun m pre x W hj hn=>YieldAt.anyDepth rfl m (hY pre x W hj hn),fun pre A B hj hg=>hJ pre A B none hj hg (fun r e=>by cases e)⟩;have hK:Below hi w W:=hW.mono hhi;have hp:=qm8 l hi (Sc.wr v).length J Jx H w hYl hG h6 hhi hIm (SizeOf.sizeOf v) v (Nat.le_refl _) (n-1) _ [] W hv hK h0 (by simp);have cB:W.cell? ⟨Bt,0,none⟩=some (.iface t y):=by
  have:=hW.block Bt (Array.getElem?_eq_some_iff.1 hc).1;simp[World.cell?,this,hc]
 clear hY hYl hJ hK;refine callsIn_of_wp func89 rfl trivial ?_ rfl;simp only[ntmps89,List.size_toArray,List.length_cons,List.length_nil,Nat.reduceAdd,Nat.reduceSub,Array.replicate_succ,Array.replicate_zero,List.push_toArray,List.append_toArray,List.nil_append,List.cons_append]
 gi_wp2_with (refine⟨trivial,hdd _,?_⟩;gi_at_call 90;refine hp.mono ?_;clear hp;rintro e W1 (⟨rfl,hJ1,_⟩|⟨rfl,q,hq,hx⟩))
 ·go_end0;exact⟨⟨_,rfl⟩,.inl ⟨_,rfl,by simpa using hJ1⟩⟩
 ·go_end0;exact⟨⟨_,rfl⟩,.inr ⟨q,hq,by simpa using hx⟩⟩
theorem qic(t:Nat)(y:Value)(w:World):
  Calls prog 59 #[.iface t y] w fun e w'=>e=.returned (.func (.func 89) #[] #[.pointer (some ⟨w.heap.size,0,none⟩)])/\w'=w.alloc (.cells #[.iface t y] 116):=by
 go_enter func59,ntmps59
 go_wp2;go_ret;exact⟨rfl,rfl⟩
def St(w:World)(bs:List UInt8)(W:World):Prop:=∃sa sc,W.heap[w.heap.size+1]? =some (.cells #[.slice sa bs.length sc] 128 (0,0))/\W.ownsRow (w.heap.size+2) 5 1 (.slice sa bs.length sc) bs.length (Lib.byteCells bs)/\W.heap[w.heap.size]? =some (.cells #[.int .i64 1200] 3 (0,0))/\Below w.heap.size w W/\bs.length<=1200
theorem info5:(prog.info? 5).map (fun i=>(i.zero,i.size,i.bytes))=some (some (.int .u8 0),1,1):=by kernel_rfl
theorem St.keep{w:World}{bs:List UInt8}{W W':World}{row:Option Nat}(h:St w bs W)(hg:W.grownBy W' row)(hr:∀r,row=some r->w.heap.size<=r/\∃o:Obj,W.heap[r]? =some o/\o.isCells=false):St w bs W':=by
 obtain⟨sa,sc,h1,h2,h3,h4,h5⟩:=h;have ne:∀(k:Nat) (c:Array Value) (t:Nat) (z:Nat×Nat),W.heap[k]? =some (Obj.cells c t z)->W'.heap[k]? =some (Obj.cells c t z):=fun k c t z hk=>by
  rw[hg.block k (Array.getElem?_eq_some_iff.1 hk).1 fun e=>by
   obtain⟨_,o,ho,hc⟩:=hr k e.symm;rw[hk]at ho;cases ho;cases hc]
  exact hk
 refine⟨sa,sc,ne _ _ _ _ h1,?_,ne _ _ _ _ h3,⟨hg.os.trans h4.os,hg.tape.trans h4.tape,hg.output.trans h4.output,Nat.le_trans h4.size hg.size,fun k hk=>?_⟩,h5⟩
 ·refine⟨h2.1,?_⟩;rcases h2.2 with h|⟨g,cap,cur,hv,hb,hgg,hrest⟩
  ·exact .inl h
  ·exact .inr ⟨g,cap,cur,hv,hb,ne _ _ _ _ hgg,hrest⟩
 ·rw[hg.block k (Nat.lt_of_lt_of_le hk h4.size) fun e=>by have:=(hr k e.symm).1;omega];exact h4.block k hk
abbrev markD(D:Nat):Deferred:={target:=.collected D,args:=#[]}
theorem qck{F:Fence}{n:Nat}{P:Program}{fn:Func}{tmps:Array Value}{R:Ending->World->Prop}{B:Nat}:∀(Ds:List Nat) (w:World),Ds.Nodup->(∀D,D∈Ds->B<=D/\w.heap[D]? =some (.deferred (some [])))->
  (∀w',Below B w w'->LeavesInM F n P fn tmps R [] .returning w')->B<=w.heap.size->LeavesInM F n P fn tmps R (Ds.map markD) .returning w
 | [],w,_,_,h,_=>h w (Below.refl _ _)
 |D::Ds,w,hnd,hD,h,hB=>by
  obtain⟨h1,h2⟩:=hD D (List.mem_cons_self ..);have hg:=grownBy_putObj' w D (.deferred none);have hbl:Below B w (w.putObj D (.deferred none)):=⟨hg.os,hg.tape,hg.output,hg.size,fun k hk=>hg.block k (by omega) (by intro e;cases e;omega)⟩;refine⟨by simp,.inl ⟨D,_,rfl,run_takeDeferred h2,?_⟩⟩;refine qck Ds _ (List.nodup_cons.1 hnd).2 (fun E hE=>?_) (fun w' hw'=>h w' (hbl.trans hw')) (Nat.le_trans hB hg.size);obtain⟨h3,h4⟩:=hD E (List.mem_cons_of_mem _ hE);exact⟨h3,by rw[hg.block E (Array.getElem?_eq_some_iff.1 h4).1 (by intro e;cases e;exact(List.nodup_cons.1 hnd).1 hE)];exact h4⟩
theorem qpy{w:World}{lo:Nat}{sa:Option Addr}{sc:Nat}{bs:List UInt8}(h:w.ownsRow lo 5 1 (.slice sa bs.length sc) bs.length (Lib.byteCells bs)):(convert 128 9 (.slice sa bs.length sc)).run prog w=.ok (.string ⟨bs.toArray⟩) w:=by
 rcases h.2 with⟨hh,h0⟩|⟨g,cap,cur,hh,hb,hg,hn,hm,hs,ht⟩
 ·have hz:bs=[]:=List.eq_nil_of_length_eq_zero h0;subst hz;cases hh;rw[show([]:List UInt8).length=0 from rfl,run_convert_bytes_nil w 128 5 underlying128 underlying5 0 0 9 underlying9];rfl
 ·cases hh;refine run_convert_bytes_back w 128 9 5 ⟨g,0,none⟩ sc bs underlying128 underlying5 underlying9 fun j hj=>?_
  have hadd:(⟨g,0,none⟩:Addr).add j=⟨g,j,none⟩:=by unfold Addr.add;split <;> simp_all
  have hc:cur.toList[j]? =some (.int .u8 (bs[j].toNat:Int)):=by
   have:(cur.toList.take (bs.length*1))[j]? =some (.int .u8 (bs[j].toNat:Int)):=by rw[ht];simp[Lib.byteCells,hj]
   rw[List.getElem?_take]at this;split at this
   ·exact this
   ·cases this
  rw[hadd];simp only[World.cell?,hg];simpa using hc
theorem qqz(n:Nat)(hn:6<=n)(H:Gh)(v:Vl)(t:Nat)(y:Value)(w:World)(hv:VRep H v (.iface t y))(hG:GT w)(h6:6<=w.heap.size)(hIm:Im H w.heap.size w):
  CallsIn Fence.wide n prog 145 #[.iface t y,.int .i64 1200] w fun e w'=>e=.returned (.string ⟨((Sc.wr v).take 1200).toArray⟩)/\Below w.heap.size w w':=by
 have hdd:∀k:Nat,(Fence.wide.depth.isSome=true->1<=k):=fun k h=>by cases h
 have HV:=hZ hv;have HG:=hZ hG;have HIm:=hZ hIm;clear hv hG hIm;refine callsIn_of_wp_marks func145 rfl trivial ?_ rfl;simp only[ntmps145,List.size_toArray,List.length_cons,List.length_nil,Nat.reduceAdd,Nat.reduceSub,Array.replicate_succ,Array.replicate_zero,List.push_toArray,List.append_toArray,List.nil_append,List.cons_append]
 gi_wp2_with (refine⟨trivial,hdd _,?_⟩;gi_at_call 59;refine(callsIn_wide.2 (qic t y _)).mono ?_;rintro e w1 ⟨rfl,rfl⟩)
 have hsz:(((w.alloc (.cells #[.int .i64 1200] 3)).alloc (.cells #[.slice none 0 0] 128)).alloc (.cells #[.iface t y] 116)).heap.size=w.heap.size+3:=by simp
 have hbw:Below w.heap.size w (((w.alloc (.cells #[.int .i64 1200] 3)).alloc (.cells #[.slice none 0 0] 128)).alloc (.cells #[.iface t y] 116)):=(((Below.refl _ _).alloc (Nat.le_refl _) _).alloc (by simp) _).alloc (by simp;omega) _;have hIm3:Im H w.heap.size (((w.alloc (.cells #[.int .i64 1200] 3)).alloc (.cells #[.slice none 0 0] 128)).alloc (.cells #[.iface t y] 116)):=fun b c t h=>by
  obtain⟨h1,h2⟩:=HIm.out b c t h;exact⟨by rw[hbw.block b h2];exact h1,h2⟩
 have hseq:=qfy H w.heap.size (w.heap.size+2) (n-1) v t y (((w.alloc (.cells #[.int .i64 1200] 3)).alloc (.cells #[.slice none 0 0] 128)).alloc (.cells #[.iface t y] 116)) (by have:=heap_alloc_new ((w.alloc (.cells #[.int .i64 1200] 3)).alloc (.cells #[.slice none 0 0] 128)) (.cells #[.iface t y] 116);simpa using this) HV.out (HG.out.below hbw (by omega)) h6 (by simp;omega) hIm3;have hst:St w [] (((w.alloc (.cells #[.int .i64 1200] 3)).alloc (.cells #[.slice none 0 0] 128)).alloc (.cells #[.iface t y] 116)):=by
  refine⟨none,0,?_,⟨rfl,.inl ⟨rfl,rfl⟩⟩,?_,hbw,by simp⟩
  ·rw[Below.heap_alloc _ _ _ (by simp)];have:=heap_alloc_new (w.alloc (.cells #[.int .i64 1200] 3)) (.cells #[.slice none 0 0] 128);simpa using this
  ·rw[Below.heap_alloc _ _ _ (by simp;omega),Below.heap_alloc _ _ _ (by simp)];exact heap_alloc_new _ _
 clear hIm3 HIm HG HV;generalize hW3:((w.alloc (.cells #[.int .i64 1200] 3)).alloc (.cells #[.slice none 0 0] 128)).alloc (.cells #[.iface t y] 116)=W3 at hseq hst hsz hbw|-;clear hW3;have HSt:=hZ hst;have HSz:=hZ hsz;have HBw:=hZ hbw;clear hst hsz hbw;refine wpIn_rangeFunc_ownF rfl (by omega) (gf:=89) (lb:=#[.pointer (some ⟨w.heap.size+2,0,none⟩)]) rfl trivial (enters_of func89 (by kernel_rfl) rfl) hseq belowK_t (belowK_b (by have:=HSz.out;omega)) (Below.refl _ _) (fun _=>rfl)
  (fun pre W=>St w pre W) (fun c pre W=>c=.exit 0/\pre.length=1201/\St w (pre.take 1200) W) ?hI ?hIx HSt.out
  (fun x=>{tmps:=#[.iface t y,.int .i64 1200,undef,.pointer (some ⟨w.heap.size,0,none⟩),.string ⟨#[]⟩,.pointer (some ⟨w.heap.size+1,0,none⟩),.int .u8 (x.toNat:Int),.iface t y,.func (.func 89) #[] #[.pointer (some ⟨w.heap.size+1+1,0,none⟩)],.int .u8 (x.toNat:Int),undef,undef,undef,undef,undef,undef,undef,undef,undef,undef],defers:=[]}) ?assign ?body ?done ?stop
 case hI=>exact fun pre W W' row hs hg hr=>hs.keep hg fun r e=>by obtain⟨h1,h2⟩:=hr r e;exact⟨by have:=HSz.out;omega,h2⟩
 case hIx=>exact fun c pre W W' row hs hg hr=>⟨hs.1,hs.2.1,hs.2.2.keep hg fun r e=>by obtain⟨h1,h2⟩:=hr r e;exact⟨by have:=HSz.out;omega,h2⟩⟩
 case assign=>
  intro l x W K hK
  gi_wp2
  exact hK
 case body=>
  intro l pre x W hs hpl;obtain⟨sa,sc,s1,s2,s3,s4,s5⟩:=hs;have c1:W.cell? ⟨w.heap.size+1,0,none⟩=some (.slice sa pre.length sc):=by simp[World.cell?,s1]
  have c0:W.cell? ⟨w.heap.size,0,none⟩=some (.int .i64 1200):=by simp[World.cell?,s3]
  by_cases hfull:pre.length=1200
  ·have HS:Hid (St w pre W):=⟨sa,sc,s1,s2,s3,s4,s5⟩;have hd:(pre.length:Int)=1200:=by omega
   have HF:=hZ hfull;clear s1 s2 s3 s4 s5 hfull hpl hseq
   gi_wp2
   refine⟨KeepsOthers.refl _,rfl,by simp[HF.out],?_⟩;rw[List.take_append_of_le_length (by rw[HF.out];exact Nat.le_refl _),List.take_of_length_le (by rw[HF.out];exact Nat.le_refl _)];exact HS.out
  ·obtain⟨i0,hi,hz0',hz1',hz2'⟩:=info_parts info5;have hd:¬(pre.length:Int)=1200:=by omega
   have hne:some (w.heap.size+1)≠(Value.slice sa pre.length sc).ownBlock:=fun e=>by have:=(s2.lt _ e.symm).1;omega
   have hnm:some w.heap.size≠(Value.slice sa pre.length sc).ownBlock:=fun e=>by have:=(s2.lt _ e.symm).1;omega
   have hlt1:=(Array.getElem?_eq_some_iff.1 s1).1;have H1:=hZ s1;have H2:=hZ s2;have H3:=hZ s3;have H4:=hZ s4;have H5:Hid (pre.length+1<=1200):=hZ (by omega);clear s1 s2 s3 s4 s5 hfull hpl hseq
   gi_wp2_with (gi_at_builtin;refine wpListIn_append_own _ rfl _ _ 128 rfl (w.heap.size+2) 5 i0 (.int .u8 0) 1 1 underlying128 hi hz0' hz1' hz2' rfl (by decide) _ _ _ rfl (H2.out.alloc _) ⟨W.heap.size,0,none⟩ 1 1 [.int .u8 (x.toNat:Int)] rfl rfl ?c1 ?c2 ?c3 ?c4 ?c5 ?_)
   case c1=>exact World.news_of_block (cs:=#[.int .u8 (x.toNat:Int)]) (heap_alloc_new _ _)
   case c2=>intro u hu;simp at hu;rcases hu with rfl;rfl
   case c3=>have:=H5.out;unfold maxLen;omega
   case c4=>have:=H5.out;omega
   case c5=>have:=H4.out.size;simp;omega
   intro v' W2 hown hgrow _;refine Hid.out ?_;obtain⟨g,cap,rfl,hg1,hg2⟩:=hown.form (by omega);have hga:W.grownBy W2 (Value.slice sa pre.length sc).ownBlock:=qbf hgrow;have k1:W2.heap[w.heap.size+1]? =some (.cells #[.slice sa pre.length sc] 128 (0,0)):=by rw[hga.block _ hlt1 hne];exact H1.out
   have k0:W2.heap[w.heap.size]? =some (.cells #[.int .i64 1200] 3 (0,0)):=by rw[hga.block _ (by omega) hnm];exact H3.out
   have d1:W2.cell? ⟨w.heap.size+1,0,none⟩=some (.slice sa pre.length sc):=by simp[World.cell?,k1]
   have hfz:W2.frozen? ⟨w.heap.size+1,0,none⟩=false:=by simp[World.frozen?,k1]
   have K1:=hZ k1;have K0:=hZ k0;have HO:=hZ hown;have HGa:=hZ hga;clear hown hgrow hga k1 k0 hg1 hg2;refine hZ ?_
   gi_wp2
   have hrow:∀r,(Value.slice sa pre.length sc).ownBlock=some r->w.heap.size+2<=r:=fun r e=>((H2.out).lt r e).1
   have hbl:Below w.heap.size W (W2.setCell ⟨w.heap.size+1,0,none⟩ (.slice (some ⟨g,0,none⟩) (pre.length+1) cap)):=
    ⟨HGa.out.os,HGa.out.tape,HGa.out.output,by rw[qaf];exact HGa.out.size,fun k hk=>by
     rw[qaa (a:=⟨w.heap.size+1,0,none⟩) k (by show k≠w.heap.size+1;omega)];exact HGa.out.block k (by omega) fun e=>by have:=hrow k e.symm;omega⟩
   refine⟨⟨hbl.size,fun k o hk ho=>?_⟩,hbl,some ⟨g,0,none⟩,cap,?_,?_,?_,H4.out.trans hbl,by have:=H5.out;simpa using this⟩
   ·have hk1:k≠w.heap.size+1:=fun e=>by rw[e,H1.out]at hk;cases hk;cases ho
    rw[qaa (a:=⟨w.heap.size+1,0,none⟩) k hk1,HGa.out.block k (Array.getElem?_eq_some_iff.1 hk).1 ?_]
    ·exact hk
    ·intro e;rcases H2.out.2 with⟨hh,_⟩|⟨g',cap',cur',hh,_,hg',_⟩
     ·rw[hh]at e;cases e
     ·rw[hh]at e;cases e;rw[hg']at hk;cases hk;cases ho
   ·have:=qbc (v:=.slice (some ⟨g,0,none⟩) (pre.length+1) cap) K1.out;simpa using this
   ·have:=qcj (a:=⟨w.heap.size+1,0,none⟩) (x:=.slice (some ⟨g,0,none⟩) (pre.length+1) cap) HO.out (show w.heap.size+1<w.heap.size+2 by omega);simpa[Lib.byteCells]using this
   ·rw[qaa (a:=⟨w.heap.size+1,0,none⟩) _ (show w.heap.size≠w.heap.size+1 by omega)];exact K0.out
 case done=>
  intro D xs W hD hS hI hDk;have hEq:(Sc.wr v).take 1200=xs:=by
   obtain⟨_,_,_,_,_,_,h⟩:=hI;rw[<-hS];exact List.take_of_length_le h
  clear hS;have HDk:=hZ hDk;obtain⟨sa,sc,s1,s2,s3,s4,s5⟩:=hI;have c1:W.cell? ⟨w.heap.size+1,0,none⟩=some (.slice sa xs.length sc):=by simp[World.cell?,s1]
  have hcv:=qpy s2;have H4:=hZ s4;have HE:=hZ hEq;have HDz:=hZ hD;clear s1 s2 s3 s4 s5 hseq hDk hEq hD
  gi_wp2
  refine qck (B:=w.heap.size) [D] W (by simp) (fun E hE=>?_) (fun w' hw'=>?_) H4.out.size
  ·simp at hE;subst hE;exact⟨by have:=HSz.out;have:=HDz.out;omega,HDk.out⟩
  ·exact⟨.string ⟨xs.toArray⟩,by simp[results,results145,go_sem],by rw[HE.out],H4.out.trans hw'⟩
 case stop=>
  rintro D c pre W hD hS ⟨rfl,hl,hI⟩ hDk;have hEq:(Sc.wr v).take 1200=pre.take 1200:=by
   obtain⟨r,hr⟩:=hS;rw[<-hr,List.take_append_of_le_length (by omega)]
  generalize pre.take 1200=bs at hEq hI;clear hS hl;have HDk:=hZ hDk;obtain⟨sa,sc,s1,s2,s3,s4,s5⟩:=hI;have c1:W.cell? ⟨w.heap.size+1,0,none⟩=some (.slice sa bs.length sc):=by simp[World.cell?,s1]
  have hcv:=qpy s2;have H4:=hZ s4;have HE:=hZ hEq;have HDz:=hZ hD;clear s1 s2 s3 s4 s5 hseq hDk hEq hD
  gi_wp2
  refine qck (B:=w.heap.size) [D] W (by simp) (fun E hE=>?_) (fun w' hw'=>?_) H4.out.size
  ·simp at hE;subst hE;exact⟨by have:=HSz.out;have:=HDz.out;omega,HDk.out⟩
  ·exact⟨.string ⟨bs.toArray⟩,by simp[results,results145,go_sem],by rw[HE.out],H4.out.trans hw'⟩
theorem qg6(H:Gh)(v:Vl)(x:Value)(w:World)(hv:VRep H v x)(hG:GT w)(h6:6<=w.heap.size)(hIm:Im H w.heap.size w):
  Calls prog 145 #[x,.int .i64 1200] w fun e w'=>e=.returned (.string ⟨((Sc.wr v).take 1200).toArray⟩)/\Below w.heap.size w w':=by
 obtain⟨t,y,rfl⟩:=hv.form;exact callsIn_wide.1 (qqz 6 (Nat.le_refl _) H v t y w hv hG h6 hIm)
end
section
open Sc
theorem error_w(t:Nat)(y:Value)(s:ByteArray)(w:World)(hS:Calls prog 145 #[.iface t y,.int .i64 1200] w fun e w'=>e=.returned (.string s)/\Below w.heap.size w w'):
  Calls prog 224 #[.iface t y] w fun e w'=>e=.panicked (stopP (.iface 166 (.agg #[.int .i64 14,.string s])))/\Below w.heap.size w w':=by
 have HS:=hZ hS;clear hS;go_enter func224,ntmps224
 go_wp2_with (go_at_call 145;refine HS.out.mono ?_;rintro e w1 ⟨rfl,hb⟩;have HB:=hZ hb;clear hb)
 exact⟨rfl,rfl,HB.out⟩
theorem qmo{S:Sub}(m:Mc)(H:Gh)(w:World)(v:Vl)(x:Value)(tw:TabW H)(i:Inv H S m w)(hv:VRep H v x):Calls prog 224 (#[x]++#[]) w (WorkOk H S (value S m .error [v])):=by
 obtain⟨t,y,rfl⟩:=hv.form;refine Calls.mono (error_w t y _ w (qg6 H v _ w hv (tw.now i) (tw.six i) fun b c t h=>⟨i.imm h,i.lt h⟩)) ?_;rintro e w' ⟨rfl,hb⟩;exact .inr ⟨14,{m with raised:=(Sc.wr v).take 1200},rfl,rfl,⟨(i.below hb).st,(i.below hb).ce,(i.below hb).fo,fun h=>((i.below hb).ff h).1,(i.below hb).cnt.mb⟩⟩
end
end Go.Proofs.YtldaocpojcfljaaGreatDoor
