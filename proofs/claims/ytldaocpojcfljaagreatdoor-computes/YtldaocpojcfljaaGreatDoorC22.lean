import Derived.Test.YtldaocpojcfljaaGreatDoorC21
set_option maxRecDepth 100000
set_option maxHeartbeats 4000000
namespace Go.Proofs.YtldaocpojcfljaaGreatDoor
open Tryz hiding parts
open Go.RowKit Go.Shelf
section
open Sc
theorem qr7 (r tx:Nat) (x:Value) (w:World) (Q:Ending→World→Prop)
  (hE:∀w',Lk (w.alloc (.cells #[.int .i64 0] 180)) w'→Calls prog 206 #[.iface tx x,.func (.func 207) #[] #[.pointer (some ⟨r,0,none⟩),.pointer (some ⟨w.heap.size,0,none⟩)]] w' fun e w2=>(∃n,e=.returned (.tuple #[])∧w2.cell? ⟨w.heap.size,0,none⟩=some (.int .i64 n)∧Q (.returned (.iface 180 (.int .i64 n))) w2)∨(∃ps,e=.panicked ps∧Q e w2)):
  Calls prog 205 #[.iface tx x,.pointer (some ⟨r,0,none⟩)] w Q:=by
 have HE:=hZ hE
 clear hE
 go_enter func205,ntmps205
 go_wp2_with (go_at_call 206;refine(HE.out _ (by exact⟨rfl,rfl,rfl,rfl⟩)).mono ?_;rintro e w2 (⟨n,rfl,hc,hq⟩|⟨ps,rfl,hq⟩))
 ·have HQ:=hZ hq
  clear hq
  go_wp2
  exact HQ.out
 ·exact⟨rfl,hq⟩
def lenOf (cnt:Nat):Except Nat (List Vl)×Mc→Except Nat Vl×Mc
 |(.error e,m)=>(.error e,m)
 |(.ok l,m)=>(.ok (.num ((cnt:Int)+l.length)),m)
theorem qr6 {S:Sub} {cnt id:Nat} {a d:Vl} {m:Mc} (h:(m.steps:Int)<S.fuel):lenOf cnt (membersOf S false (.pair id a d) m)=lenOf (cnt+1) (membersOf S false d {m with steps:=m.steps+1}):=by
 simp only [membersOf,Sc.step,if_pos h,Bool.false_eq_true,if_false]
 rcases membersOf S false d {m with steps:=m.steps+1}with⟨e|l,m'⟩
 ·rfl
 ·simp [lenOf];omega
theorem qou {S:Sub} {cnt id:Nat} {a d:Vl} {m:Mc} (h:¬(m.steps:Int)<S.fuel):lenOf cnt (membersOf S false (.pair id a d) m)=(.error 10,m):=by
 simp only [membersOf,Sc.step,if_neg h,lenOf]
end
section
open Sc
theorem eg207:Eg 207:=qak func207 (by kernel_rfl) (by kernel_rfl)
theorem qbc {w:World} {c t:Nat} {x v:Value} (h:w.heap[c]? =some (.cells #[x] t (0,0))):(w.setCell ⟨c,0,none⟩ v).heap[c]? =some (.cells #[v] t (0,0)):=by
 simp [World.setCell,Array.getElem?_modify,h]
theorem Inv.new_loose {G:Gh} {S:Sub} {m:Mc} {w:World} (i:Inv G S m w):G.I w.heap.size=none∧w.heap.size∉G.mut∧¬G.F w.heap.size:=
 ⟨i.fresh (Nat.le_refl _),fun h=>Nat.lt_irrefl _ (i.ml h),fun h=>Nat.lt_irrefl _ (i.ff h).2⟩
def LenR (H:Gh) (S:Sub) (c:Nat) (rv:Except Nat Vl×Mc) (k:Nat) (x:Value) (w:World):Prop:=
 ∃(v:Vl) (m:Mc) (cnt:Nat),SizeOf.sizeOf v≤k∧cnt≤m.steps∧Inv H S m w∧VRep H v x∧w.heap[c]? =some (.cells #[.int .i64 (cnt:Int)] 180 (0,0))∧rv=lenOf cnt (membersOf S false v m)
theorem qjg {S:Sub} (m:Mc) (H:Gh) (w:World) (v:Vl) (x:Value) (r:Nat) (hr:H.mbox r) (i:Inv H S m w) (hv:VRep H v x):Calls prog 205 (#[x]++#[bp r]) w (WorkOk H S (value S m .length [v])):=by
 obtain⟨hI,hmut,hF⟩:=i.new_loose
 have hsb:w.heap.size≠H.sb:=fun e=>hmut (e▸i.m2)
 have hval:value S m .length [v]=lenOf 0 (membersOf S false v m):=by
  simp only [value]
  rcases membersOf S false v m with⟨e|l,m'⟩
  ·rfl
  ·simp [lenOf]
 rw [hval]
 generalize hrv:lenOf 0 (membersOf S false v m)=rv
 obtain⟨t,x',rfl⟩:=hv.form
 refine qr7 r t x' w _ fun w' hw=>?_
 refine qpk 207 #[bp r,bp w.heap.size] eg207 (LenR H S w.heap.size rv) _ (SizeOf.sizeOf v) _ w' ⟨v,m,0,Nat.le_refl _,Nat.zero_le _,Inv.lk hw (i.below ((Below.refl _ _).alloc (Nat.le_refl _) _)),hv,by rw [hw.heap];exact heap_alloc_new _ _,hrv.symm⟩ ?_
 rintro k x w1 ⟨v,m,cnt,hk,hcm,i,hv,hc,hrv⟩
 have hfu:(m.steps:Int)≤S.fuel:=i.sl.1
 have hf2:S.fuel≤20000:=i.sl.2
 have other:∀t y,x=.iface t y→t≠246→t≠186→membersOf S false v m=(.error 6,m)→(∃t y,t≠246∧t≠186∧x=.iface t y∧∀o,(∃n,Ending.panicked (stopP (stopV 6))=.returned (.tuple #[])∧(w1.alloc o).cell? ⟨w.heap.size,0,none⟩=some (.int .i64 n)∧WorkOk H S rv (.returned (.iface 180 (.int .i64 n))) (w1.alloc o))∨(∃ps,Ending.panicked (stopP (stopV 6))=.panicked ps∧WorkOk H S rv (.panicked (stopP (stopV 6))) (w1.alloc o))):=fun t y e h1 h2 h3=>by
  rw [h3]at hrv
  exact⟨t,y,h1,h2,e,fun o=>.inr ⟨_,rfl,.inr ⟨6,m,hrv,rfl,i.cntB (Nat.le_refl _) ((Below.refl _ _).alloc (Nat.le_refl _) _)⟩⟩⟩
 cases hv with
 |pair id b v u x y hj hb h1 h2=>
  left
  obtain⟨t0,y0,rfl⟩:=h1.form
  obtain⟨t1,y1,rfl⟩:=h2.form
  refine⟨b,t0,y0,t1,y1,SizeOf.sizeOf u,by simp at hk;omega,rfl,by rw [i.cell hb];rfl,?_⟩
  have c1:w1.cell? ⟨r,0,none⟩=some (.pointer (some ⟨H.mb,0,none⟩)):=by rw [i.cell hr];rfl
  by_cases hst:(m.steps:Int)<S.fuel
  ·rw [qr6 hst]at hrv
   refine Calls.mono (qov r w.heap.size H.mb H.sb t0 y0 m.steps S.fuel cnt w1 c1 i.mb0 i.st (by omega) (by omega) (by omega) hc hsb (by omega) (by omega)) ?_
   rintro e w2 ⟨rfl,hw2⟩
   have is:=i.steps (m.steps+1) (by push_cast;omega)
   have is:Inv H S {m with steps:=m.steps+1} (w1.setCell ⟨H.sb,0,none⟩ (.int .i64 ((m.steps:Int)+1))):=by simpa using is
   have i2:=Inv.lk hw2 (is.loose hI hmut hF)
   refine .inl ⟨rfl,by rw [i2.cell hb];rfl,u,_,cnt+1,Nat.le_refl _,by simp;omega,i2,h2,?_,hrv⟩
   rw [hw2.heap]
   have:=qbc (v:=.int .i64 ((cnt:Int)+1)) (w:=w1.setCell ⟨H.sb,0,none⟩ (.int .i64 ((m.steps:Int)+1))) (by rw [qaa (a:=⟨H.sb,0,none⟩) _ hsb];exact hc)
   rw [this];push_cast;rfl
  ·rw [qou hst]at hrv
   have hm:(m.steps:Int)=S.fuel:=by omega
   have hM:Mt H.sb m.steps S.fuel 10 w1:=i.st
   rw [←hm]at hM
   refine Calls.mono (ql8 r w.heap.size H.mb H.sb t0 y0 m.steps w1 c1 i.mb0 hM (by omega) (by omega)) ?_
   rintro e w2 ⟨rfl,hb2⟩
   have i1:=i.steps m.steps (by omega)
   exact .inr ⟨_,rfl,.inr ⟨_,rfl,.inr ⟨10,m,hrv,rfl,i1.cntB (by rw [qaf];exact Nat.le_refl _) hb2⟩⟩⟩
 |nil=>
  right;left
  refine⟨rfl,.inl ⟨cnt,rfl,by simp [World.cell?,hc],.inl ⟨H,.num cnt,m,_,?_,rfl,Gh.up.refl H,i,.num _ (by omega) (by omega)⟩⟩⟩
  rw [hrv];simp [membersOf,lenOf]
 |proc v b h=>right;right;exact other _ _ rfl (by decide) (by decide) (by cases h <;> rfl)
 |_=>right;right;exact other _ _ rfl (by decide) (by decide) rfl
end
section
open Sc
def EqOk (G:Gh) (S:Sub) (rv:Except Nat Bool×Mc) (e:Ending) (w1:World):Prop:=
 (∃b m',rv=(.ok b,m')∧e=.returned (.bool b)∧Inv G S m' w1)∨(∃vd m',rv=(.error vd,m')∧e=.panicked (stopP (stopW vd m'))∧Cnt G S m' w1)
def EqR (H:Gh) (S:Sub) (N:Nat) (rv:Except Nat Bool×Mc) (k:Nat) (x y:Value) (w:World):Prop:=
 ∃(v u:Vl) (m:Mc),SizeOf.sizeOf v≤k∧k≤N∧Inv H S m w∧VRep H v x∧VRep H u y∧rv=equal S v u m
theorem EqR.lk {H:Gh} {S:Sub} {N k:Nat} {rv:Except Nat Bool×Mc} {x y:Value} {w w':World} (h:EqR H S N rv k x y w) (hl:Lk w w'):EqR H S N rv k x y w':=by
 obtain⟨v,u,m,h1,h2,h3,h4⟩:=h
 exact⟨v,u,m,h1,h2,Inv.lk hl h3,h4⟩
def EqStep (H:Gh) (S:Sub) (N:Nat) (rv:Except Nat Bool×Mc) (k _b _b':Nat) (x1 y1:Value) (e:Ending) (w3:World):Prop:=
 (∃bb,e=.returned (.bool bb)∧(bb=false→EqOk H S rv (.returned (.bool false)) w3)∧(bb=true→∃k',k'<k∧EqR H S N rv k' x1 y1 w3))∨(∃ps,e=.panicked ps∧EqOk H S rv e w3)
theorem EqR.round {H:Gh} {S:Sub} {N k:Nat} {rv:Except Nat Bool×Mc} {x y:Value} {w:World} (h:EqR H S N rv k x y w)
  (ih:∀(v u:Vl) (m:Mc) (x y:Value) (w:World),SizeOf.sizeOf v<N→Inv H S m w→VRep H v x→VRep H u y→Calls prog 198 #[bp H.mb,x,y] w (EqOk H S (equal S v u m))):
  ((∃bb t t' z z',x=.iface t z∧y=.iface t' z'∧(t≠246∨t'≠246)∧(t=246→∃b,z=bp b)∧(t'=246→∃b,z'=bp b)∧(∀w',Lk w w'→(binOp .eql 116 x y).run prog w'=.ok (.bool bb) w')∧∀w',Lk w w'→EqOk H S rv (.returned (.bool bb)) w'))∨
  (∃(b b':Nat) (x0 y0 x1 y1:Value) (t:Int),x=.iface 246 (bp b)∧y=.iface 246 (bp b')∧(∃c,w.heap[b]? =some (.cells c 252 (0,0))∧c[0]? =some x0∧c[1]? =some x1)∧(∃c,w.heap[b']? =some (.cells c 252 (0,0))∧c[0]? =some y0∧c[1]? =some y1)∧b≠H.sb∧b'≠H.sb∧(∃t z,x0=.iface t z)∧(∃t z,y0=.iface t z)∧(∃t z,x1=.iface t z)∧(∃t z,y1=.iface t z)∧
   w.cell? ⟨H.mb,0,none⟩=some (.pointer (some ⟨H.sb,0,none⟩))∧Mt H.sb t S.fuel 10 w∧0≤t∧S.fuel≤20000∧t≤S.fuel∧
   ((t+1≤S.fuel∧∀w',Lk (w.setCell ⟨H.sb,0,none⟩ (.int .i64 (t+1))) w'→Calls prog 198 #[bp H.mb,x0,y0] w' fun e w3=>EqStep H S N rv k b b' x1 y1 e w3∧(∀v,e=.returned v→w3.heap[b]? =w.heap[b]?∧w3.heap[b']? =w.heap[b']?))∨
    (t=S.fuel∧∀w',Below w.heap.size (w.setCell ⟨H.sb,0,none⟩ (.int .i64 t)) w'→EqOk H S rv (.panicked (stopP (stopV 10))) w'))):=by
 obtain⟨v,u,m,hk,hN,i,hv,hu,hrv⟩:=h
 by_cases hp:(∃id a d,v=.pair id a d)∧∃id a d,u=.pair id a d
 ·right
  obtain⟨⟨id,a,d,rfl⟩,id',a',d',rfl⟩:=hp
  cases hv with
  |proc _ b h=>cases h
  |pair id b v u x y hj hb h1 h2=>
   cases hu with
   |proc _ b h=>cases h
   |pair id' b' v' u' x' y' hj' hb' h1' h2'=>
    have hsb:∀{b:Nat} {o:Obj},H.I b=some o→b≠H.sb:=fun {b o} h e=>by rw [e,i.mi i.m2]at h;cases h
    refine⟨b,b',x,x',y,y',m.steps,rfl,rfl,⟨_,i.imm hb,rfl,rfl⟩,⟨_,i.imm hb',rfl,rfl⟩,hsb hb,hsb hb',h1.form,h1'.form,h2.form,h2'.form,i.mb0,i.st,by omega,i.sl.2,i.sl.1,?_⟩
    by_cases hst:(m.steps:Int)<S.fuel
    ·left
     refine⟨by omega,fun w' hw=>?_⟩
     have is:=i.steps (m.steps+1) (by push_cast;omega)
     have is:Inv H S {m with steps:=m.steps+1} w':=Inv.lk hw (by simpa using is)
     refine Calls.mono (ih a a' _ x x' w' (by simp at hk;omega) is h1 h1') ?_
     have heq:equal S (.pair id a d) (.pair id' a' d') m=(match equal S a a' {m with steps:=m.steps+1}with
       |(.error e,m)=>(.error e,m)
       |(.ok false,m)=>(.ok false,m)
       |(.ok true,m)=>equal S d d' m):=by
      simp only [equal,Sc.step,if_pos hst]
      rcases equal S a a' {m with steps:=m.steps+1}with⟨e|(_|_),m'⟩ <;> rfl
     rw [heq]at hrv
     rintro e w3 (⟨bb,m',e1,rfl,hi⟩|⟨vd,m',e1,rfl,hc⟩)
     ·refine⟨.inl ⟨bb,rfl,fun hbb=>?_,fun hbb=>?_⟩,fun _ _=>⟨by rw [hi.imm hb,i.imm hb],by rw [hi.imm hb',i.imm hb']⟩⟩
      ·subst hbb;rw [e1]at hrv;exact .inl ⟨false,m',hrv,rfl,hi⟩
      ·subst hbb;rw [e1]at hrv;exact⟨SizeOf.sizeOf d,by simp at hk;omega,d,d',m',Nat.le_refl _,by simp at hk;omega,hi,h2,h2',hrv⟩
     ·rw [e1]at hrv
      exact⟨.inr ⟨_,rfl,.inr ⟨vd,m',hrv,rfl,hc⟩⟩,fun _ h=>by cases h⟩
    ·right
     have hs:=i.sl.1
     refine⟨by omega,fun w' hb=>?_⟩
     have heq:equal S (.pair id a d) (.pair id' a' d') m=(.error 10,m):=by
      simp only [equal,Sc.step,if_neg hst]
     have i1:=i.steps m.steps (by omega)
     exact .inr ⟨10,m,hrv.trans heq,rfl,i1.cntB (by rw [qaf];exact Nat.le_refl _) hb⟩
 ·left
  have heq:equal S v u m=(.ok (eq v u),m):=by
   cases v <;> cases u <;> first|(exfalso;exact hp ⟨⟨_,_,_,rfl⟩,_,_,_,rfl⟩)|simp [equal]
  obtain⟨t,z,rfl⟩:=hv.form
  obtain⟨t',z',rfl⟩:=hu.form
  refine⟨eq v u,t,t',z,z',rfl,rfl,?_,?_,?_,fun w' hw=>hv.same (Inv.lk hw i) hu,fun w' hw=>.inl ⟨_,m,hrv.trans heq,rfl,Inv.lk hw i⟩⟩
  ·by_cases ht:t=246
   ·right;intro ht'
    subst ht ht'
    cases hv with
    |pair id b v u x y=>cases hu with
     |pair id' b' v' u' x' y'=>exact hp ⟨⟨_,_,_,rfl⟩,_,_,_,rfl⟩
   ·exact .inl ht
  ·rintro rfl;cases hv with
   |pair id b=>exact⟨b,rfl⟩
  ·rintro rfl;cases hu with
   |pair id b=>exact⟨b,rfl⟩
end
section
open Sc
theorem equal_w (H:Gh) (S:Sub) (N tx ty:Nat) (x y:Value) (w:World) (rv:Except Nat Bool×Mc) (h:EqR H S N rv N (.iface tx x) (.iface ty y) w)
  (ih:∀(v u:Vl) (m:Mc) (x y:Value) (w:World),SizeOf.sizeOf v<N→Inv H S m w→VRep H v x→VRep H u y→Calls prog 198 #[bp H.mb,x,y] w (EqOk H S (equal S v u m))):
  Calls prog 198 #[.pointer (some ⟨H.mb,0,none⟩),.iface tx x,.iface ty y] w (EqOk H S rv):=by
 have HE:=hZ h
 have IH:=hZ ih
 clear h ih
 go_enter func198,ntmps198
 go_wp2
 go_loopg [1,2] N (fun k x y wr=>EqR H S N rv k x y wr)
 case atStart=>exact HE.out
 case round=>
  have hr:=hrel.round IH.out
  clear hrel
  rcases hr with⟨bb,t,t',z,z',rfl,rfl,hne,hz,hz',hb,hq⟩|⟨b,b',x0,y0,x1,y1,t,rfl,rfl,⟨c,hc,c0,c1⟩,⟨c',hc',c0',c1'⟩,hbs,hbs',⟨t0,z0,rfl⟩,⟨s0,q0,rfl⟩,⟨t1,z1,rfl⟩,⟨s1,q1,rfl⟩,hmb,hM,ht0,hfu,htf,hcase⟩
  ·have HQ:=hZ hq
   have HB:=hZ hb
   have hbe:(binOp .eql 116 (.iface t z) (.iface t' z')).run prog wr=.ok (.bool bb) wr:=hb wr (by exact⟨rfl,rfl,rfl,rfl⟩)
   clear hb hq
   by_cases ht:t=246
   ·subst ht
    have ht':t'≠246:=by rcases hne with h|h;exact absurd rfl h;exact h
    obtain⟨b,rfl⟩:=hz rfl
    have ha:∀w,(Instr.typeAssert (.iface 246 (.pointer (some ⟨b,0,none⟩))) 116 246 true).run prog w=.ok (.tuple #[.pointer (some ⟨b,0,none⟩),.bool true]) w:=fun w=>qgj _ w
    have ha':∀w,(Instr.typeAssert (.iface t' z') 116 246 true).run prog w=.ok (.tuple #[.pointer none,.bool false]) w:=fun w=>qcd _ _ ht' w
    clear hne hz hz' ht'
    go_wp2
    go_ret
    exact HQ.out _ (by exact⟨rfl,rfl,rfl,rfl⟩)
   ·have ha:∀w,(Instr.typeAssert (.iface t z) 116 246 true).run prog w=.ok (.tuple #[.pointer none,.bool false]) w:=fun w=>qcd _ _ ht w
    by_cases ht':t'=246
    ·subst ht'
     obtain⟨b,rfl⟩:=hz' rfl
     have ha':∀w,(Instr.typeAssert (.iface 246 (.pointer (some ⟨b,0,none⟩))) 116 246 true).run prog w=.ok (.tuple #[.pointer (some ⟨b,0,none⟩),.bool true]) w:=fun w=>qgj _ w
     clear hne hz hz' ht
     go_wp2
     go_ret
     exact HQ.out _ (by exact⟨rfl,rfl,rfl,rfl⟩)
    ·have ha':∀w,(Instr.typeAssert (.iface t' z') 116 246 true).run prog w=.ok (.tuple #[.pointer none,.bool false]) w:=fun w=>qcd _ _ ht' w
     clear hne hz hz' ht ht'
     go_wp2
     go_ret
     exact HQ.out _ (by exact⟨rfl,rfl,rfl,rfl⟩)
  ·have ha:∀w,(Instr.typeAssert (.iface 246 (.pointer (some ⟨b,0,none⟩))) 116 246 true).run prog w=.ok (.tuple #[.pointer (some ⟨b,0,none⟩),.bool true]) w:=fun w=>qgj _ w
   have ha':∀w,(Instr.typeAssert (.iface 246 (.pointer (some ⟨b',0,none⟩))) 116 246 true).run prog w=.ok (.tuple #[.pointer (some ⟨b',0,none⟩),.bool true]) w:=fun w=>qgj _ w
   rcases hcase with⟨hlt,hcall⟩|⟨heqf,hq⟩
   ·have HC:=hZ hcall
    have HT:=hZ (qba H.sb t S.fuel 10 1 wr hM ht0 hlt (by omega) (by omega))
    have KC:Hid (∀(w':World),w'.heap[b]? =wr.heap[b]?→w'.heap[b']? =wr.heap[b']?→(w'.cell? ⟨b,0,none⟩=some (.iface t0 z0)∧w'.cell? ⟨b',0,none⟩=some (.iface s0 q0))∧w'.cell? ⟨b,1,none⟩=some (.iface t1 z1)∧w'.cell? ⟨b',1,none⟩=some (.iface s1 q1)):=fun w' e1 e2=>by
     simp only [World.cell?,e1,e2,hc,hc'];exact⟨⟨c0,c0'⟩,c1,c1'⟩
    have KS:Hid (∀k,((wr.setCell ⟨H.sb,0,none⟩ (.int .i64 (t+1))).drewN k).heap[b]? =wr.heap[b]?∧((wr.setCell ⟨H.sb,0,none⟩ (.int .i64 (t+1))).drewN k).heap[b']? =wr.heap[b']?):=fun k=>
     ⟨qaa (a:=⟨H.sb,0,none⟩) b hbs,qaa (a:=⟨H.sb,0,none⟩) b' hbs'⟩
    clear hcall hM hc hc' c0 c0' c1 c1' hbs hbs' ht0 hfu htf hlt
    go_wp2_with (go_at_call 200;refine HT.out.mono ?_;rintro e w2 ⟨rfl,kd,rfl⟩)
    have hcell:=(KC.out _ (KS.out kd).1 (KS.out kd).2).1
    obtain⟨w5,hw5⟩:∃w5,w5=(wr.setCell ⟨H.sb,0,none⟩ (.int .i64 (t+1))).drewN kd:=⟨_,rfl⟩
    rw [←hw5]at hcell⊢
    have HC5:Hid (∀w',Lk w5 w'→Calls prog 198 #[.pointer (some ⟨H.mb,0,none⟩),.iface t0 z0,.iface s0 q0] w' fun e w3=>EqStep H S N rv gk b b' (.iface t1 z1) (.iface s1 q1) e w3∧(∀v,e=.returned v→w3.heap[b]? =wr.heap[b]?∧w3.heap[b']? =wr.heap[b']?)):=fun w' hw'=>HC.out w' (by rw [hw5]at hw';exact⟨hw'.heap,hw'.tape,hw'.os,hw'.output⟩)
    obtain⟨hcell0,hcell0'⟩:=hcell
    clear hw5 HC HT KS
    refine qai 9 (by kernel_rfl) (by kernel_rfl) ?_
    simp only [List.take_succ_cons,List.take_zero,List.drop_succ_cons,List.drop_zero]
    repeat still_step
    refine wpStill_nil ?_
    go_wp2_with (go_at_call 198;refine(HC5.out _ (by exact⟨rfl,rfl,rfl,rfl⟩)).mono ?_;rintro e w3 ⟨⟨bb,rfl,hf,htr⟩|⟨ps,rfl,hq⟩,hkeep⟩;rotate_left;(exact⟨rfl,hq⟩);have HK:=hZ (KC.out w3 (hkeep _ rfl).1 (hkeep _ rfl).2).2;have HF:=hZ hf;have HTR:=hZ htr;clear hkeep hf htr hcell0 hcell0';rcases bb with _|_)
    ·go_ret
     exact HF.out (by trivial)
    ·obtain⟨k1,k2⟩:=HK.out
     obtain⟨k',hk',hrel'⟩:=HTR.out (by trivial)
     have HR:=hZ hrel'
     clear hrel'
     go_quiet (fail)
     go_wp2
     go_roundg k'
     case measure=>exact hk'
     case rel=>exact HR.out.lk (by exact⟨rfl,rfl,rfl,rfl⟩)
   ·have HQ:=hZ hq
    have HT:=hZ (qa1 H.sb t S.fuel 10 1 wr hM ht0 (by omega) (by omega) htf (by omega))
    rw [←heqf]at HT
    clear hq hM hc hc' c0 c0' c1 c1' hbs hbs' heqf
    go_wp2_with (go_at_call 200;refine HT.out.mono ?_;rintro e w2 ⟨rfl,hb⟩)
    exact⟨rfl,HQ.out _ hb⟩
theorem qh1 (H:Gh) (S:Sub):∀(N:Nat) (v u:Vl) (m:Mc) (x y:Value) (w:World),SizeOf.sizeOf v<N→Inv H S m w→VRep H v x→VRep H u y→Calls prog 198 #[bp H.mb,x,y] w (EqOk H S (equal S v u m))
 |0,_,_,_,_,_,_,h,_,_,_=>absurd h (Nat.not_lt_zero _)
 |N+1,v,u,m,x,y,w,h,i,hv,hu=>by
  obtain⟨t,x',rfl⟩:=hv.form
  obtain⟨s,y',rfl⟩:=hu.form
  exact equal_w H S N t s x' y' w _ ⟨v,u,m,by omega,Nat.le_refl _,i,hv,hu,rfl⟩ fun v u m x y w h=>qh1 H S N v u m x y w h
theorem qmq (r mb tx ty:Nat) (x y:Value) (w:World) (Q:Ending→World→Prop) (h1:w.cell? ⟨r,0,none⟩=some (.pointer (some ⟨mb,0,none⟩)))
  (hE:∀w',Lk w w'→Calls prog 198 #[.pointer (some ⟨mb,0,none⟩),.iface tx x,.iface ty y] w' fun e w2=>(∃b,e=.returned (.bool b)∧∀w3,Lk w2 w3→Q (.returned (.iface 181 (.bool b))) w3)∨(∃ps,e=.panicked ps∧Q e w2)):
  Calls prog 197 #[.iface tx x,.iface ty y,.pointer (some ⟨r,0,none⟩)] w Q:=by
 have HE:=hZ hE
 clear hE
 go_enter func197,ntmps197
 go_wp2_with (go_at_call 198;refine(HE.out _ (by exact⟨rfl,rfl,rfl,rfl⟩)).mono ?_;rintro e w2 (⟨b,rfl,hq⟩|⟨ps,rfl,hq⟩);rotate_left;(exact⟨rfl,hq⟩);have HQ:=hZ hq;clear hq)
 first|exact HQ.out _ (by exact⟨rfl,rfl,rfl,rfl⟩)|(go_wp2;exact HQ.out _ (by exact⟨rfl,rfl,rfl,rfl⟩))
theorem qmp {S:Sub} (m:Mc) (H:Gh) (w:World) (v u:Vl) (x y:Value) (r:Nat) (hr:H.mbox r) (i:Inv H S m w) (hv:VRep H v x) (hu:VRep H u y):Calls prog 197 (#[x,y]++#[bp r]) w (WorkOk H S (value S m .equalQ [v,u])):=by
 obtain⟨t,x',rfl⟩:=hv.form
 obtain⟨s,y',rfl⟩:=hu.form
 refine qmq r H.mb t s x' y' w _ (by rw [i.cell hr];rfl) fun w' hw=>?_
 refine Calls.mono (qh1 H S _ v u m _ _ w' (Nat.lt_succ_self _) (Inv.lk hw i) hv hu) ?_
 rintro e w2 (⟨b,m',e1,rfl,hi⟩|⟨vd,m',e1,rfl,hc⟩)
 ·exact .inl ⟨b,rfl,fun w3 hw3=>.inl ⟨H,.bool b,m',_,by simp only [value,e1],rfl,Gh.up.refl H,Inv.lk hw3 hi,.bool b⟩⟩
 ·exact .inr ⟨_,rfl,.inr ⟨vd,m',by simp only [value,e1],rfl,hc⟩⟩
end
section
open Sc
theorem qrj (a:Int):Num2 182 a 0 none:=by
 intro w
 show Calls prog 182 #[.int .i64 a,.int .i64 0] w fun e w'=>e=.panicked (stopP (stopV 8))∧∃o,w'=w.alloc o
 go_enter func182,ntmps182
 go_wp2_with (go_at_call 212;refine(qb1 _).mono ?_;rintro e w2 ⟨rfl,o,rfl⟩)
 exact⟨rfl,rfl,o,rfl⟩
theorem qrk (a b:Int) (_ha:-9223372036854775808≤a) (_ha':a≤9223372036854775807) (_hb:-9223372036854775808≤b) (_hb':b≤9223372036854775807) (h:b≠0):Num2 182 a b (some (.iface 180 (.int .i64 (a.tmod b)))):=by
 intro w
 show Calls prog 182 #[.int .i64 a,.int .i64 b] w fun e w'=>e=.returned (.iface 180 (.int .i64 (a.tmod b)))∧w'=w
 have hd:(b==0)=false:=by simp [h]
 have hd2:(b !=0)=true:=by simp [h]
 have hd3:(!b==0)=true:=by simp [h]
 go_enter func182,ntmps182
 go_wp2_with (go_at_call 212;refine(qcm _).mono ?_;rintro e w2 ⟨rfl,hww⟩;obtain rfl:=hww.symm)
 go_wp2
 go_ret
 exact⟨rfl,rfl⟩
theorem qoa (a:Int):Num2 181 a 0 none:=by
 intro w
 show Calls prog 181 #[.int .i64 a,.int .i64 0] w fun e w'=>e=.panicked (stopP (stopV 8))∧∃o,w'=w.alloc o
 go_enter func181,ntmps181
 go_wp2_with (go_at_call 212;refine(qb1 _).mono ?_;rintro e w2 ⟨rfl,o,rfl⟩)
 exact⟨rfl,rfl,o,rfl⟩
theorem qlp:Num2 181 (-9223372036854775808) (-1) none:=by
 intro w
 show Calls prog 181 #[.int .i64 (-9223372036854775808),.int .i64 (-1)] w fun e w'=>e=.panicked (stopP (stopV 8))∧∃o,w'=w.alloc o
 go_enter func181,ntmps181
 go_wp2_with (go_at_call 212;refine(qb1 _).mono ?_;rintro e w2 ⟨rfl,o,rfl⟩)
 exact⟨rfl,rfl,o,rfl⟩
end
section
open Sc
theorem qob (a b:Int) (_ha:-9223372036854775808≤a) (_ha':a≤9223372036854775807) (_hb:-9223372036854775808≤b) (_hb':b≤9223372036854775807) (h:b≠0) (hl:¬(a=-9223372036854775808∧b=-1)) (h1:-9223372036854775808≤a.tdiv b) (h2:a.tdiv b≤9223372036854775807):Num2 181 a b (some (.iface 180 (.int .i64 (a.tdiv b)))):=by
 intro w
 show Calls prog 181 #[.int .i64 a,.int .i64 b] w fun e w'=>e=.returned (.iface 180 (.int .i64 (a.tdiv b)))∧w'=w
 have hd:(b==0)=false:=by simp [h]
 have hd2:(b !=0)=true:=by simp [h]
 have hd3:(!b==0)=true:=by simp [h]
 by_cases hm:a=-9223372036854775808
 ·have hm1:(a== -9223372036854775808)=true:=by simp [hm]
  have hb1:(b== -1)=false:=by
   have:b≠-1:=fun e=>hl ⟨hm,e⟩
   simp [this]
  clear hm hl
  go_enter func181,ntmps181
  go_wp2_with (go_at_call 212;refine(qcm _).mono ?_;rintro e w2 ⟨rfl,hww⟩;obtain rfl:=hww.symm)
  go_wp2
  go_ret
  exact⟨rfl,rfl⟩
 ·have hm1:(a== -9223372036854775808)=false:=by simp [hm]
  clear hm hl
  go_enter func181,ntmps181
  go_wp2_with (go_at_call 212;refine(qcm _).mono ?_;rintro e w2 ⟨rfl,hww⟩;obtain rfl:=hww.symm)
  go_wp2
  go_ret
  exact⟨rfl,rfl⟩
end
section
open Sc
theorem mul_zero (a:Int) (_ha:-9223372036854775808≤a) (_ha':a≤9223372036854775807):Num2 180 a 0 (some (.iface 180 (.int .i64 0))):=by
 intro w
 show Calls prog 180 #[.int .i64 a,.int .i64 0] w fun e w'=>e=.returned (.iface 180 (.int .i64 0))∧w'=w
 have h0:a*0=0:=Int.mul_zero a
 go_enter func180,ntmps180
 go_wp2_with (go_at_call 212;refine(qcm _).mono ?_;rintro e w2 ⟨rfl,hww⟩;obtain rfl:=hww.symm)
 go_wp2
 go_ret
 exact⟨rfl,rfl⟩
theorem qrx (a b:Int) (ha:-9223372036854775808≤a) (ha':a≤9223372036854775807) (hb:-9223372036854775808≤b) (hb':b≤9223372036854775807) (h:b≠0) (h1:-9223372036854775808≤a*b) (h2:a*b≤9223372036854775807):Num2 180 a b (some (.iface 180 (.int .i64 (a*b)))):=by
 intro w
 show Calls prog 180 #[.int .i64 a,.int .i64 b] w fun e w'=>e=.returned (.iface 180 (.int .i64 (a*b)))∧w'=w
 have hl:¬(a=-9223372036854775808∧b=-1):=by rintro⟨rfl,rfl⟩;omega
 obtain⟨p,hp⟩:∃p,p=a*b:=⟨_,rfl⟩
 have hq:p.tdiv b=a:=by rw [hp];exact Int.mul_tdiv_cancel a h
 have hw:IntKind.i64.wrap (a*b)=p:=by rw [hp,IntKind.wrap_i64];omega
 rw [←hp]at h1 h2⊢
 have hd:(b==0)=false:=by simp [h]
 have hqe:(p.tdiv b==a)=true:=by simp [hq]
 by_cases hm:a=-9223372036854775808
 ·have hm1:(a== -9223372036854775808)=true:=by simp [hm]
  have hb1:(b== -1)=false:=by
   have:b≠-1:=fun e=>hl ⟨hm,e⟩
   simp [this]
  clear hm hl hp
  go_enter func180,ntmps180
  go_wp2_with (go_at_call 212;refine(qcm _).mono ?_;rintro e w2 ⟨rfl,hww⟩;obtain rfl:=hww.symm)
  go_wp2
  go_ret
  exact⟨rfl,rfl⟩
 ·have hm1:(a== -9223372036854775808)=false:=by simp [hm]
  clear hm hl hp
  go_enter func180,ntmps180
  go_wp2_with (go_at_call 212;refine(qcm _).mono ?_;rintro e w2 ⟨rfl,hww⟩;obtain rfl:=hww.symm)
  go_wp2
  go_ret
  exact⟨rfl,rfl⟩
end
section
open Sc
theorem mul_ne (a b p:Int) (hb:-9223372036854775808≤b) (hb':b≤9223372036854775807) (h:b≠0) (hp:p=(a*b+9223372036854775808) % 18446744073709551616-9223372036854775808) (ho:a*b< -9223372036854775808∨9223372036854775807<a*b):p.tdiv b≠a:=by
 intro e
 have h1:b*p.tdiv b+p.tmod b=p:=Int.mul_tdiv_add_tmod p b
 rw [e,Int.mul_comm]at h1
 have h2:(p.tmod b).natAbs<b.natAbs:=by
  rw [Int.natAbs_tmod];exact Nat.mod_lt _ (by omega)
 generalize a*b=q at*
 generalize p.tmod b=r at*
 omega
theorem qop:Num2 180 (-9223372036854775808) (-1) none:=by
 intro w
 show Calls prog 180 #[.int .i64 (-9223372036854775808),.int .i64 (-1)] w fun e w'=>e=.panicked (stopP (stopV 8))∧∃o,w'=w.alloc o
 go_enter func180,ntmps180
 go_wp2_with (go_at_call 212;refine(qb1 _).mono ?_;rintro e w2 ⟨rfl,o,rfl⟩)
 all_goals exact⟨rfl,rfl,o,rfl⟩
theorem qrw (a b:Int) (ha:-9223372036854775808≤a) (ha':a≤9223372036854775807) (hb:-9223372036854775808≤b) (hb':b≤9223372036854775807) (h:b≠0) (hl:¬(a=-9223372036854775808∧b=-1)) (ho:a*b< -9223372036854775808∨9223372036854775807<a*b):Num2 180 a b none:=by
 intro w
 show Calls prog 180 #[.int .i64 a,.int .i64 b] w fun e w'=>e=.panicked (stopP (stopV 8))∧∃o,w'=w.alloc o
 obtain⟨p,hp⟩:∃p,p=(a*b+9223372036854775808) % 18446744073709551616-9223372036854775808:=⟨_,rfl⟩
 have hne:=mul_ne a b p hb hb' h hp ho
 have hw:IntKind.i64.wrap (a*b)=p:=by rw [hp,IntKind.wrap_i64]
 have h1:-9223372036854775808≤p:=by omega
 have h2:p≤9223372036854775807:=by omega
 have hb1:b≠-1:=by rintro rfl;omega
 have hq:-9223372036854775808≤p.tdiv b∧p.tdiv b≤9223372036854775807:=by
  have hn:(p.tdiv b).natAbs=p.natAbs / b.natAbs:=Int.natAbs_tdiv p b
  by_cases hb2:b.natAbs=1
  ·have:b=1:=by omega
   subst this;rw [Int.tdiv_one];exact⟨h1,h2⟩
  ·have h3:p.natAbs / b.natAbs≤p.natAbs / 2:=Nat.div_le_div_left (by omega) (by omega)
   generalize p.natAbs / b.natAbs=z at*
   omega
 obtain⟨hq1,hq2⟩:=hq
 have hd:(b==0)=false:=by simp [h]
 have hqe:(p.tdiv b==a)=false:=by simp [hne]
 clear hp ho hl hne hb1
 go_enter func180,ntmps180
 go_wp2_with (go_at_call 212;refine(qb1 _).mono ?_;rintro e w2 ⟨rfl,o,rfl⟩)
 all_goals exact⟨rfl,rfl,o,rfl⟩
end
section
open Sc
def NumOk (S:Sub) (G:Gh) (m:Mc) (p:Pm) (f:Nat):Prop:=∀a b,-9223372036854775808≤a→a≤9223372036854775807→-9223372036854775808≤b→b≤9223372036854775807→(∃v x,value S m p [.num a,.num b]=(.ok v,m)∧VRep G v x∧Num2 f a b (some x))∨(value S m p [.num a,.num b]=(.error 8,m)∧Num2 f a b none)
theorem qd3 {n:Int} (h1:-9223372036854775808≤n) (h2:n≤9223372036854775807):num n=.ok (.num n):=by simp [num,fits,h1,h2]
theorem qf9 {n:Int} (h:n< -9223372036854775808∨9223372036854775807<n):num n=.error 8:=by
 have:fits n=false:=by simp [fits];omega
 simp [num,this]
theorem tdiv_in {a b:Int} (ha:-9223372036854775808≤a) (ha':a≤9223372036854775807) (h:b≠0) (hl:¬(a=-9223372036854775808∧b=-1)):-9223372036854775808≤a.tdiv b∧a.tdiv b≤9223372036854775807:=by
 have hn:(a.tdiv b).natAbs=a.natAbs / b.natAbs:=Int.natAbs_tdiv a b
 by_cases hb2:b.natAbs=1
 ·rcases (show b=1∨b=-1 by omega)with rfl|rfl
  ·rw [Int.tdiv_one];exact⟨ha,ha'⟩
  ·have:a.tdiv (-1)=-a:=by simp [Int.tdiv_neg]
   rw [this];omega
 ·have h3:a.natAbs / b.natAbs≤a.natAbs / 2:=Nat.div_le_div_left (by omega) (by omega)
  generalize a.natAbs / b.natAbs=z at*
  omega
theorem tmod_in {a b:Int} (hb:-9223372036854775808≤b) (hb':b≤9223372036854775807) (h:b≠0):-9223372036854775808≤a.tmod b∧a.tmod b≤9223372036854775807:=by
 have h2:(a.tmod b).natAbs<b.natAbs:=by
  rw [Int.natAbs_tmod];exact Nat.mod_lt _ (by omega)
 omega
theorem add_num (S:Sub) (G:Gh) (m:Mc):NumOk S G m .add 178:=fun a b a0 a1 b0 b1=>by
 by_cases h:-9223372036854775808≤a+b∧a+b≤9223372036854775807
 ·exact .inl ⟨_,_,by simp only [value,qd3 h.1 h.2],.num _ h.1 h.2,qtk a b a0 a1 b0 b1 h.1 h.2⟩
 ·have ho:a+b< -9223372036854775808∨9223372036854775807<a+b:=by omega
  exact .inr ⟨by simp only [value,qf9 ho],qtj a b a0 a1 b0 b1 ho⟩
theorem sub_num (S:Sub) (G:Gh) (m:Mc):NumOk S G m .sub 179:=fun a b a0 a1 b0 b1=>by
 by_cases h:-9223372036854775808≤a-b∧a-b≤9223372036854775807
 ·exact .inl ⟨_,_,by simp only [value,qd3 h.1 h.2],.num _ h.1 h.2,qqv a b a0 a1 b0 b1 h.1 h.2⟩
 ·have ho:a-b< -9223372036854775808∨9223372036854775807<a-b:=by omega
  exact .inr ⟨by simp only [value,qf9 ho],qqu a b a0 a1 b0 b1 ho⟩
theorem mul_num (S:Sub) (G:Gh) (m:Mc):NumOk S G m .mul 180:=fun a b a0 a1 b0 b1=>by
 by_cases hb:b=0
 ·subst hb
  exact .inl ⟨.num 0,_,by simp [value,num,fits],.num 0 (by decide) (by decide),mul_zero a a0 a1⟩
 ·by_cases h:-9223372036854775808≤a*b∧a*b≤9223372036854775807
  ·exact .inl ⟨_,_,by simp only [value,qd3 h.1 h.2],.num _ h.1 h.2,qrx a b a0 a1 b0 b1 hb h.1 h.2⟩
  ·have ho:a*b< -9223372036854775808∨9223372036854775807<a*b:=by omega
   refine .inr ⟨by simp only [value,qf9 ho],?_⟩
   by_cases hl:a=-9223372036854775808∧b=-1
   ·obtain⟨rfl,rfl⟩:=hl;exact qop
   ·exact qrw a b a0 a1 b0 b1 hb hl ho
theorem qro (S:Sub) (G:Gh) (m:Mc):NumOk S G m .quot 181:=fun a b a0 a1 b0 b1=>by
 by_cases hb:b=0
 ·subst hb
  exact .inr ⟨by simp [value],qoa a⟩
 ·by_cases hl:a=-9223372036854775808∧b=-1
  ·obtain⟨rfl,rfl⟩:=hl
   exact .inr ⟨by simp [value,num,fits],qlp⟩
  ·obtain⟨h1,h2⟩:=tdiv_in a0 a1 hb hl
   exact .inl ⟨_,_,by simp only [value,if_neg hb,qd3 h1 h2],.num _ h1 h2,qob a b a0 a1 b0 b1 hb hl h1 h2⟩
theorem rem_num (S:Sub) (G:Gh) (m:Mc):NumOk S G m .rem 182:=fun a b a0 a1 b0 b1=>by
 by_cases hb:b=0
 ·subst hb
  exact .inr ⟨by simp [value],qrj a⟩
 ·obtain⟨h1,h2⟩:=tmod_in (a:=a) b0 b1 hb
  exact .inl ⟨_,_,by simp only [value,if_neg hb],.num _ h1 h2,qrk a b a0 a1 b0 b1 hb⟩
end
section
open Sc
theorem qpd (S:Sub) (G:Gh) (m:Mc):NumOk S G m .eql 183:=fun a b _ _ _ _=>.inl ⟨_,_,rfl,.bool _,eql_num a b⟩
theorem qot (S:Sub) (G:Gh) (m:Mc):NumOk S G m .lss 184:=fun a b _ _ _ _=>.inl ⟨_,_,rfl,.bool _,lss_num a b⟩
theorem qik (r:Nat) (a b:ByteArray) (w:World) (hl:1200<(a.size:Int)+(b.size:Int)) (ha:(a.size:Int)≤1000000000) (hb:(b.size:Int)≤1000000000):
  Calls prog 211 #[.string a,.string b,.pointer (some ⟨r,0,none⟩)] w fun e w'=>e=.panicked (stopP (stopV 8))∧∃o,w'=w.alloc o:=by
 have hd:¬((a.size:Int)+(b.size:Int)≤1200):=by omega
 go_enter func211,ntmps211
 go_wp2_with (go_at_call 212;refine(qb1 _).mono ?_;rintro e w2 ⟨rfl,o,rfl⟩)
 exact⟨rfl,rfl,o,rfl⟩
end
end Go.Proofs.YtldaocpojcfljaaGreatDoor
