import Derived.Test.YtldaocpojcfljaaGreatDoorC26
set_option maxRecDepth 100000
set_option maxHeartbeats 4000000
namespace Go.Proofs.YtldaocpojcfljaaGreatDoor
open Tryz hiding parts
open Go.RowKit Go.Shelf
section
open Sc
theorem eg178:Eg 178:=qak func178 (by kernel_rfl) (by kernel_rfl)
theorem eg179:Eg 179:=qak func179 (by kernel_rfl) (by kernel_rfl)
theorem eg180:Eg 180:=qak func180 (by kernel_rfl) (by kernel_rfl)
theorem eg181:Eg 181:=qak func181 (by kernel_rfl) (by kernel_rfl)
theorem eg182:Eg 182:=qak func182 (by kernel_rfl) (by kernel_rfl)
theorem eg183:Eg 183:=qak func183 (by kernel_rfl) (by kernel_rfl)
theorem eg184:Eg 184:=qak func184 (by kernel_rfl) (by kernel_rfl)
theorem eg199:Eg 199:=qak func199 (by kernel_rfl) (by kernel_rfl)
theorem eg202:Eg 202:=qak func202 (by kernel_rfl) (by kernel_rfl)
theorem eg203:Eg 203:=qak func203 (by kernel_rfl) (by kernel_rfl)
theorem eg260:Eg 260:=qak func260 (by kernel_rfl) (by kernel_rfl)
theorem eg261:Eg 261:=qak func261 (by kernel_rfl) (by kernel_rfl)
theorem eg262:Eg 262:=qak func262 (by kernel_rfl) (by kernel_rfl)
theorem eg263:Eg 263:=qak func263 (by kernel_rfl) (by kernel_rfl)
theorem eg264:Eg 264:=qak func264 (by kernel_rfl) (by kernel_rfl)
theorem eg265:Eg 265:=qak func265 (by kernel_rfl) (by kernel_rfl)
theorem eg266:Eg 266:=qak func266 (by kernel_rfl) (by kernel_rfl)
theorem eg267:Eg 267:=qak func267 (by kernel_rfl) (by kernel_rfl)
theorem eg194:Eg 194:=qak func194 (by kernel_rfl) (by kernel_rfl)
theorem eg196:Eg 196:=qak func196 (by kernel_rfl) (by kernel_rfl)
theorem eg197:Eg 197:=qak func197 (by kernel_rfl) (by kernel_rfl)
theorem eg205:Eg 205:=qak func205 (by kernel_rfl) (by kernel_rfl)
theorem eg208:Eg 208:=qak func208 (by kernel_rfl) (by kernel_rfl)
theorem eg211:Eg 211:=qak func211 (by kernel_rfl) (by kernel_rfl)
theorem eg215:Eg 215:=qak func215 (by kernel_rfl) (by kernel_rfl)
theorem eg217:Eg 217:=qak func217 (by kernel_rfl) (by kernel_rfl)
theorem eg220:Eg 220:=qak func220 (by kernel_rfl) (by kernel_rfl)
theorem eg224:Eg 224:=qak func224 (by kernel_rfl) (by kernel_rfl)
theorem eg225:Eg 225:=qak func225 (by kernel_rfl) (by kernel_rfl)
theorem simP (S:Sub) (n:Nat):SimP S n:=by
 intro G m w p al k kx ku cx cu sa sn sc tw i hp hk hr he
 cases hp with
 |bare q hf h=>
  cases p with
  |add=>exact qbg (qav S n).2 .add 178 eg178 rfl rfl rfl (fun _ _ _=>rfl) G m w al k q ku cu sa sn sc (add_num S G m) i h hk hr he
  |sub=>exact qbg (qav S n).2 .sub 179 eg179 rfl rfl rfl (fun _ _ _=>rfl) G m w al k q ku cu sa sn sc (sub_num S G m) i h hk hr he
  |mul=>exact qbg (qav S n).2 .mul 180 eg180 rfl rfl rfl (fun _ _ _=>rfl) G m w al k q ku cu sa sn sc (mul_num S G m) i h hk hr he
  |quot=>exact qbg (qav S n).2 .quot 181 eg181 rfl rfl rfl (fun _ _ _=>rfl) G m w al k q ku cu sa sn sc (qro S G m) i h hk hr he
  |rem=>exact qbg (qav S n).2 .rem 182 eg182 rfl rfl rfl (fun _ _ _=>rfl) G m w al k q ku cu sa sn sc (rem_num S G m) i h hk hr he
  |eql=>exact qbg (qav S n).2 .eql 183 eg183 rfl rfl rfl (fun _ _ _=>rfl) G m w al k q ku cu sa sn sc (qpd S G m) i h hk hr he
  |lss=>exact qbg (qav S n).2 .lss 184 eg184 rfl rfl rfl (fun _ _ _=>rfl) G m w al k q ku cu sa sn sc (qot S G m) i h hk hr he
  |nullQ=>exact qar .nullQ 260 #[] eg260 rfl rfl rfl (fun _ _ _=>rfl) G m w al k q ku cu sa sn sc (fun H w v x _ i hv=>ql4 m H w v x i hv) i h hk hr he
  |pairQ=>exact qar .pairQ 261 #[] eg261 rfl rfl rfl (fun _ _ _=>rfl) G m w al k q ku cu sa sn sc (fun H w v x _ i hv=>qlu m H w v x i hv) i h hk hr he
  |intQ=>exact qar .intQ 262 #[] eg262 rfl rfl rfl (fun _ _ _=>rfl) G m w al k q ku cu sa sn sc (fun H w v x _ i hv=>qo3 m H w v x i hv) i h hk hr he
  |symQ=>exact qar .symQ 263 #[] eg263 rfl rfl rfl (fun _ _ _=>rfl) G m w al k q ku cu sa sn sc (fun H w v x _ i hv=>qnk m H w v x i hv) i h hk hr he
  |strQ=>exact qar .strQ 264 #[] eg264 rfl rfl rfl (fun _ _ _=>rfl) G m w al k q ku cu sa sn sc (fun H w v x _ i hv=>qno m H w v x i hv) i h hk hr he
  |boolQ=>exact qar .boolQ 265 #[] eg265 rfl rfl rfl (fun _ _ _=>rfl) G m w al k q ku cu sa sn sc (fun H w v x _ i hv=>qm2 m H w v x i hv) i h hk hr he
  |procQ=>exact qar .procQ 266 #[] eg266 rfl rfl rfl (fun _ _ _=>rfl) G m w al k q ku cu sa sn sc (fun H w v x _ i hv=>qls m H w v x i hv) i h hk hr he
  |sealQ=>exact qar .sealQ 267 #[] eg267 rfl rfl rfl (fun _ _ _=>rfl) G m w al k q ku cu sa sn sc (fun H w v x _ i hv=>qll m H w v x i hv) i h hk hr he
  |not=>exact qar .not 194 #[] eg194 rfl rfl rfl (fun _ _ _=>rfl) G m w al k q ku cu sa sn sc (fun H w v x _ i hv=>qrt m H w v x i hv) i h hk hr he
  |error=>exact qar .error 224 #[] eg224 rfl rfl rfl (fun _ _ _=>rfl) G m w al k q ku cu sa sn sc (fun H w v x hu i hv=>qmo m H w v x (tw.up hu) i hv) i h hk hr he
  |eqQ=>exact qbz .eqQ 196 #[] eg196 rfl rfl rfl (fun _ _ _=>rfl) G m w al k q ku _ cu sa sn sc (fun H w v u x y _ i hv hu=>eq_work m H w v u x y i hv hu) i h hk hr he
  |car=>exact qdz .car 202 #[] eg202 rfl rfl rfl (fun _ _ _=>rfl) G m w al k q ku _ cu sa sn sc (fun H w v b _ i hv=>qs9 m H w v b i hv) i h hk hr he
  |cdr=>exact qdz .cdr 203 #[] eg203 rfl rfl rfl (fun _ _ _=>rfl) G m w al k q ku _ cu sa sn sc (fun H w v b _ i hv=>qs7 m H w v b i hv) i h hk hr he
  |strLength=>exact qh7 .strLength 215 #[] eg215 rfl rfl rfl (fun _ _ _=>rfl) G m w al k q ku _ cu sa sn sc (fun H w v b _ i hv=>qii m H w v b i hv) i h hk hr he
  |_=>exact absurd hf (by decide)
 |mach q r hf h hb=>
  cases p with
  |cons=>exact qbz .cons 199 #[bp r] eg199 rfl rfl rfl (fun _ _ _=>rfl) G m w al k q ku _ cu sa sn sc (fun H w v u x y hu i hv hv2=>qp0 m H w v u x y r (hu.le.mbox hb) i hv hv2) i h hk hr he
  |equalQ=>exact qbz .equalQ 197 #[bp r] eg197 rfl rfl rfl (fun _ _ _=>rfl) G m w al k q ku _ cu sa sn sc (fun H w v u x y hu i hv hv2=>qmp m H w v u x y r (hu.le.mbox hb) i hv hv2) i h hk hr he
  |append=>exact qbz .append 208 #[bp r] eg208 rfl rfl rfl (fun _ _ _=>rfl) G m w al k q ku _ cu sa sn sc (fun H w v u x y hu i hv hv2=>qj3 m H w v u x y r (hu.le.mbox hb) i hv hv2) i h hk hr he
  |length=>exact qar .length 205 #[bp r] eg205 rfl rfl rfl (fun _ _ _=>rfl) G m w al k q ku cu sa sn sc (fun H w v x hu i hv=>qjg m H w v x r (hu.le.mbox hb) i hv) i h hk hr he
  |«seal»=>exact qar .«seal» 225 #[bp r] eg225 rfl rfl rfl (fun _ _ _=>rfl) G m w al k q ku cu sa sn sc (fun H w v x hu i hv=>qnz m H w v x r (hu.le.mbox hb) i hv) i h hk hr he
  |strAppend=>exact qh4 .strAppend 211 #[bp r] eg211 rfl rfl rfl (fun _ _ _=>rfl) G m w al k q ku _ cu sa sn sc (fun w a b hza hzb i=>qij m G w a b r hb hza hzb i) i h hk hr he
  |numStr=>exact qh6 .numStr 217 #[bp r] eg217 rfl rfl rfl (fun _ _ _=>rfl) G m w al k q ku _ cu sa sn sc (fun H w v b hu i hv=>qi1 m H w v b r (hu.le.mbox hb) (tw.up hu) i hv) i h hk hr he
  |symStr=>exact qh5 .symStr 220 #[bp r] eg220 rfl rfl rfl (fun _ _ _=>rfl) G m w al k q ku _ cu sa sn sc (fun H w v b hu i hv=>qih m H w v b r (hu.le.mbox hb) i hv) i h hk hr he
  |_=>exact absurd hf (by decide)
 |self q hf h=>
  cases p with
  |list=>exact carry_list G m w al k q ku cu sa sn sc i h hk hr he
  |apply=>exact qj1 G m w al k q ku cu sa sn sc i h hk hr
  |callcc=>exact qh8 G m w al k q ku cu sa sn sc i h hk hr
  |wind=>exact qm1 G m w al k q ku cu sa sn sc i h hk hr
  |_=>exact absurd hf (by decide)
end
section
open Sc
structure Mv (G:Gh) (w:World) (H:Gh) (w':World):Prop where
 up:G.up H
 I:∀{b:Nat},b<w.heap.size→H.I b=G.I b
 mu:∀{b:Nat},b∈H.mut→b∈G.mut∨w.heap.size≤b
 blk:∀{k:Nat},k<w.heap.size→k∉G.mut→w'.heap[k]? =w.heap[k]?
 size:w.heap.size≤w'.heap.size
theorem Mv.refl (G:Gh) (w:World):Mv G w G w:=⟨Gh.up.refl G,fun _=>rfl,.inl,fun _ _=>rfl,Nat.le_refl _⟩
theorem Mv.trans {G H L:Gh} {w w1 w2:World} (a:Mv G w H w1) (b:Mv H w1 L w2):Mv G w L w2:=
 ⟨a.up.trans b.up,fun h=>(b.I (Nat.lt_of_lt_of_le h a.size)).trans (a.I h),fun h=>(b.mu h).elim a.mu (fun h=>.inr (Nat.le_trans a.size h)),fun hk hn=>(b.blk (Nat.lt_of_lt_of_le hk a.size) (fun h=>(a.mu h).elim hn (fun h=>by omega))).trans (a.blk hk hn),Nat.le_trans a.size b.size⟩
theorem Mv.lk {G H:Gh} {w w1 w2:World} (a:Mv G w H w1) (h:Lk w1 w2):Mv G w H w2:=⟨a.up,a.I,a.mu,fun hk hn=>by rw [h.heap];exact a.blk hk hn,by rw [h.heap];exact a.size⟩
theorem Mv.ext {G H:Gh} {w w':World} (x:G.ext H w.heap.size) (b:Below w.heap.size w w'):Mv G w H w':=⟨x.up,fun h=>x.I h,fun h=>.inl (by rw [←x.mut];exact h),fun hk _=>b.block _ hk,b.size⟩
theorem Mv.lkl {G H:Gh} {w w1 w2:World} (h:Lk w w1) (a:Mv G w1 H w2):Mv G w H w2:=by
 obtain⟨a1,a2,a3,a4,a5⟩:=a
 rw [h.heap]at a2 a3 a4 a5
 exact⟨a1,a2,a3,a4,a5⟩
theorem qab (w:World) (o:Obj):Below w.heap.size w (w.alloc o):=(Below.refl _ _).alloc (Nat.le_refl _) _
def Made (G:Gh) (S:Sub) (m:Mc) (w:World) (sh:List Nat) (e:Ex) (e':Ending) (w':World):Prop:=∃H x,e'=.returned x∧Mv G w H w'∧Inv H S m w'∧CRep H sh e x
theorem Made.ends {G:Gh} {S:Sub} {m:Mc} {w:World} {sh:List Nat} {e:Ex}:∀e' w',Made G S m w sh e e' w'→∃v,e'=.returned v:=fun _ _ ⟨_,x,h,_⟩=>⟨x,h⟩
theorem Made.after {G H:Gh} {S:Sub} {m:Mc} {w w1:World} {sh:List Nat} {e:Ex} {e':Ending} {w':World} (a:Mv G w H w1) (h:Made H S m w1 sh e e' w'):Made G S m w sh e e' w':=by
 obtain⟨L,x,h1,h2,h3,h4⟩:=h
 exact⟨L,x,h1,a.trans h2,h3,h4⟩
theorem qli (mb kc:Nat) (cc:Array Value) (w:World):Calls prog 339 #[.pointer (some ⟨mb,0,none⟩),.func (.func kc) #[] cc] w fun e w'=>
  e=.returned (.func (.func 376) #[] #[.pointer (some ⟨w.heap.size,0,none⟩),.pointer (some ⟨w.heap.size+1,0,none⟩)])∧Lk ((w.alloc (.cells #[.pointer (some ⟨mb,0,none⟩)] 107)).alloc (.cells #[.func (.func kc) #[] cc] 241)) w':=by
 go_enter func339,ntmps339
 go_wp2
 go_ret
 exact⟨rfl,rfl,rfl,rfl,rfl⟩
theorem qci {G:Gh} {S:Sub} {m:Mc} {w:World} {sh:List Nat} {e:Ex} {kc:Nat} {cc:Array Value} (i:Inv G S m w) (hy:IRep G sh e (.func (.func kc) #[] cc)):Calls prog 339 #[bp G.mb,.func (.func kc) #[] cc] w (Made G S m w sh e):=by
 refine Calls.mono (qli G.mb kc cc w) ?_
 rintro e' w' ⟨rfl,hw⟩
 have i2:=i.alloc2 (.cells #[bp G.mb] 107) (.cells #[.func (.func kc) #[] cc] 241)
 have x2:=i.x2 (.cells #[bp G.mb] 107) (.cells #[.func (.func kc) #[] cc] 241)
 refine⟨_,_,rfl,(Mv.ext x2 ((qab _ _).alloc (by simp) _)).lk hw,Inv.lk hw i2,.step sh e _ _ _ ?_ (Gh.add_at _ _ _) (hy.mono x2.le)⟩
 show Gh.I _ _=_
 rw [qae _ (by omega)];exact Gh.add_at _ _ _
theorem ql6 (mb:Nat) (u i:Int) (w:World) (Q:Ending→World→Prop) (hQ:∀e w,Q e w→∃v,e=.returned v)
  (hK:∀w',Lk (w.alloc (.cells #[.int .i64 u,.int .i64 i] 395)) w'→Calls prog 339 #[.pointer (some ⟨mb,0,none⟩),.func (.func 366) #[] #[.pointer (some ⟨w.heap.size,0,none⟩)]] w' Q):
  Calls prog 331 #[.pointer (some ⟨mb,0,none⟩),.agg #[.int .i64 u,.int .i64 i]] w Q:=by
 have HK:=hZ hK
 have HQ:=hZ hQ
 clear hK hQ
 go_enter func331,ntmps331
 go_wp2_with (go_at_call 339;refine(HK.out _ (by exact⟨rfl,rfl,rfl,rfl⟩)).mono ?_;intro e w2 hq;obtain⟨v,rfl⟩:=HQ.out _ _ hq)
 exact hq
theorem qr1 {G:Gh} {S:Sub} {m:Mc} {w:World} {sh:List Nat} {u j n:Nat} (i:Inv G S m w) (hs:sh[u]? =some n) (hj:j<n) (hb:u≤1000000000∧n≤1000000000):Calls prog 331 #[bp G.mb,.agg #[.int .i64 (u:Int),.int .i64 (j:Int)]] w (Made G S m w sh (.loc u j)):=by
 refine ql6 G.mb u j w _ Made.ends fun w' hw=>?_
 have i1:=Inv.lk hw (i.alloc (.cells #[.int .i64 (u:Int),.int .i64 (j:Int)] 395))
 have x1:=i.x1 (.cells #[.int .i64 (u:Int),.int .i64 (j:Int)] 395)
 have key:=qci (sh:=sh) (e:=.loc u j) i1 (.loc sh u j n w.heap.size hs hj hb (Gh.add_at _ _ _))
 exact Calls.mono key fun e w2 h=>h.after ((Mv.ext x1 (qab _ _)).lk hw)
theorem if373_w (mb k1 k2 k3:Nat) (c1 c2 c3:Array Value) (w:World) (Q:Ending→World→Prop) (hQ:∀e w,Q e w→∃v,e=.returned v)
  (hK:∀w',Lk (((w.alloc (.cells #[.func (.func k1) #[] c1] 241)).alloc (.cells #[.func (.func k2) #[] c2] 241)).alloc (.cells #[.func (.func k3) #[] c3] 241)) w'→Calls prog 339 #[.pointer (some ⟨mb,0,none⟩),.func (.func 398) #[] #[.pointer (some ⟨w.heap.size,0,none⟩),.pointer (some ⟨w.heap.size+2,0,none⟩),.pointer (some ⟨w.heap.size+1,0,none⟩)]] w' Q):
  Calls prog 373 #[.pointer (some ⟨mb,0,none⟩),.func (.func k1) #[] c1,.func (.func k2) #[] c2,.func (.func k3) #[] c3] w Q:=by
 have HK:=hZ hK
 have HQ:=hZ hQ
 clear hK hQ
 go_enter func373,ntmps373
 go_wp2_with (go_at_call 339;refine(HK.out _ (by exact⟨rfl,rfl,rfl,rfl⟩)).mono ?_;intro e w2 hq;obtain⟨v,rfl⟩:=HQ.out _ _ hq)
 exact hq
theorem if_mk {G:Gh} {S:Sub} {m:Mc} {w:World} {sh:List Nat} {c t:Ex} {o:Option Ex} {xc xt xo:Value} (i:Inv G S m w) (hc:CRep G sh c xc) (ht:CRep G sh t xt) (ho:ORep G sh o xo):Calls prog 373 #[bp G.mb,xc,xt,xo] w (Made G S m w sh (.ite c t o)):=by
 obtain⟨k1,c1,rfl,_⟩:=hc.isF
 obtain⟨k2,c2,rfl,_⟩:=ht.isF
 obtain⟨k3,c3,rfl⟩:∃k c,xo=.func (.func k) #[] c:=by
  cases ho with
  |none=>exact⟨_,_,rfl⟩
  |some _ e _ h=>obtain⟨k,c,h,_⟩:=h.isF;exact⟨k,c,h⟩
 refine if373_w G.mb k1 k2 k3 c1 c2 c3 w _ Made.ends fun w' hw=>?_
 have i3:=Inv.lk hw (i.alloc3 (.cells #[.func (.func k1) #[] c1] 241) (.cells #[.func (.func k2) #[] c2] 241) (.cells #[.func (.func k3) #[] c3] 241))
 have x3:=i.x3 (.cells #[.func (.func k1) #[] c1] 241) (.cells #[.func (.func k2) #[] c2] 241) (.cells #[.func (.func k3) #[] c3] 241)
 have key:=qci (sh:=sh) (e:=.ite c t o) i3 (by
  refine(.ite sh c t o w.heap.size (w.heap.size+2) (w.heap.size+1) _ _ _ ?_ (Gh.add_at _ _ _) ?_ (hc.mono x3.le) (ht.mono x3.le) (ho.mono x3.le))
  ·rw [qae _ (by omega),qae _ (by omega)];exact Gh.add_at _ _ _
  ·rw [qae _ (by omega)];exact Gh.add_at _ _ _
  )
 exact Calls.mono key fun e w2 h=>h.after ((Mv.ext x3 (((qab _ _).alloc (by simp) _).alloc (by simp;omega) _)).lk hw)
theorem qth (mb:Nat) (sa:Option Addr) (sn sc:Nat) (w:World) (Q:Ending→World→Prop) (hQ:∀e w,Q e w→∃v,e=.returned v)
  (hK:∀w',Lk ((w.alloc (.cells #[.pointer (some ⟨mb,0,none⟩)] 107)).alloc (.cells #[.slice sa sn sc] 426)) w'→Calls prog 339 #[.pointer (some ⟨mb,0,none⟩),.func (.func 370) #[] #[.pointer (some ⟨w.heap.size,0,none⟩),.pointer (some ⟨w.heap.size+1,0,none⟩)]] w' Q):
  Calls prog 333 #[.pointer (some ⟨mb,0,none⟩),.slice sa sn sc] w Q:=by
 have HK:=hZ hK
 have HQ:=hZ hQ
 clear hK hQ
 go_enter func333,ntmps333
 go_wp2_with (go_at_call 339;refine(HK.out _ (by exact⟨rfl,rfl,rfl,rfl⟩)).mono ?_;intro e w2 hq;obtain⟨v,rfl⟩:=HQ.out _ _ hq)
 exact hq
theorem app_mk {G:Gh} {S:Sub} {m:Mc} {w:World} {sh:List Nat} {f:Ex} {l:List Ex} {sa:Option Addr} {sn sc:Nat} {xs:List Value} (i:Inv G S m w) (hb:xs.length≤90000) (hr:RowI G 241 (.slice sa sn sc) xs) (hx:XRep G sh (f::l) xs):Calls prog 333 #[bp G.mb,.slice sa sn sc] w (Made G S m w sh (.app f l)):=by
 refine qth G.mb sa sn sc w _ Made.ends fun w' hw=>?_
 have i2:=Inv.lk hw (i.alloc2 (.cells #[bp G.mb] 107) (.cells #[.slice sa sn sc] 426))
 have x2:=i.x2 (.cells #[bp G.mb] 107) (.cells #[.slice sa sn sc] 426)
 have key:=qci (sh:=sh) (e:=.app f l) i2 (by
  refine(.app sh f l w.heap.size (w.heap.size+1) _ xs ?_ (Gh.add_at _ _ _) hb (hr.mono x2.le) (hx.mono x2.le))
  show Gh.I _ _=_
  rw [qae _ (by omega)];exact Gh.add_at _ _ _
  )
 exact Calls.mono key fun e w2 h=>h.after ((Mv.ext x2 ((qab _ _).alloc (by simp) _)).lk hw)
theorem qrd (mb k1 k2:Nat) (c1 c2:Array Value) (w:World) (Q:Ending→World→Prop) (hQ:∀e w,Q e w→∃v,e=.returned v)
  (hK:∀w',Lk ((w.alloc (.cells #[.func (.func k1) #[] c1] 241)).alloc (.cells #[.func (.func k2) #[] c2] 413)) w'→Calls prog 339 #[.pointer (some ⟨mb,0,none⟩),.func (.func 355) #[] #[.pointer (some ⟨w.heap.size,0,none⟩),.pointer (some ⟨w.heap.size+1,0,none⟩)]] w' Q):
  Calls prog 321 #[.pointer (some ⟨mb,0,none⟩),.func (.func k1) #[] c1,.func (.func k2) #[] c2] w Q:=by
 have HK:=hZ hK
 have HQ:=hZ hQ
 clear hK hQ
 go_enter func321,ntmps321
 go_wp2_with (go_at_call 339;refine(HK.out _ (by exact⟨rfl,rfl,rfl,rfl⟩)).mono ?_;intro e w2 hq;obtain⟨v,rfl⟩:=HQ.out _ _ hq)
 exact hq
inductive Tg.Ex':Tg→Ex→Ex→Prop where
 |loc (u n:Nat) (a:Ex):Tg.Ex' (.loc u n) a (.setL u n a)
 |glo (s:Bs) (a:Ex):Tg.Ex' (.glo s) a (.setG s a)
 |def' (s:Bs) (a:Ex):Tg.Ex' (.def' s) a (.defG s a)
theorem qnt {G:Gh} {S:Sub} {m:Mc} {w:World} {sh:List Nat} {t:Tg} {a e:Ex} {xa xs:Value} (i:Inv G S m w) (ht:Tg.Ex' t a e) (ha:CRep G sh a xa) (hs:TRep G sh t xs):Calls prog 321 #[bp G.mb,xa,xs] w (Made G S m w sh e):=by
 obtain⟨k1,c1,rfl,_⟩:=ha.isF
 obtain⟨k2,c2,rfl⟩:∃k c,xs=.func (.func k) #[] c:=by cases hs <;> exact⟨_,_,rfl⟩
 refine qrd G.mb k1 k2 c1 c2 w _ Made.ends fun w' hw=>?_
 have i2:=Inv.lk hw (i.alloc2 (.cells #[.func (.func k1) #[] c1] 241) (.cells #[.func (.func k2) #[] c2] 413))
 have x2:=i.x2 (.cells #[.func (.func k1) #[] c1] 241) (.cells #[.func (.func k2) #[] c2] 413)
 have h0:((G.add w.heap.size (.cells #[.func (.func k1) #[] c1] 241)).add (w.heap.size+1) (.cells #[.func (.func k2) #[] c2] 413)).I w.heap.size=some (.cells #[.func (.func k1) #[] c1] 241 (0,0)):=by
  rw [qae _ (by omega)];exact Gh.add_at _ _ _
 have key:=qci (sh:=sh) (e:=e) (kc:=355) (cc:=#[bp w.heap.size,bp (w.heap.size+1)]) i2 (by
  cases ht with
  |loc u n=>exact .setL sh u n a w.heap.size (w.heap.size+1) _ _ h0 (Gh.add_at _ _ _) (ha.mono x2.le) (hs.mono x2.le)
  |glo s=>exact .setG sh s a w.heap.size (w.heap.size+1) _ _ h0 (Gh.add_at _ _ _) (ha.mono x2.le) (hs.mono x2.le)
  |def' s=>exact .defG sh s a w.heap.size (w.heap.size+1) _ _ h0 (Gh.add_at _ _ _) (ha.mono x2.le) (hs.mono x2.le))
 exact Calls.mono key fun e w2 h=>h.after ((Mv.ext x2 ((qab _ _).alloc (by simp) _)).lk hw)
theorem qnv (mb k1:Nat) (u i:Int) (c1:Array Value) (w:World) (Q:Ending→World→Prop) (hQ:∀e w,Q e w→∃v,e=.returned v)
  (hK:∀w',Lk (w.alloc (.cells #[.int .i64 u,.int .i64 i] 395)) w'→Calls prog 321 #[.pointer (some ⟨mb,0,none⟩),.func (.func k1) #[] c1,.func (.func 400) #[] #[.pointer (some ⟨w.heap.size,0,none⟩)]] w' Q):
  Calls prog 374 #[.pointer (some ⟨mb,0,none⟩),.agg #[.int .i64 u,.int .i64 i],.func (.func k1) #[] c1] w Q:=by
 have HK:=hZ hK
 have HQ:=hZ hQ
 clear hK hQ
 go_enter func374,ntmps374
 go_wp2_with (go_at_call 321;refine(HK.out _ (by exact⟨rfl,rfl,rfl,rfl⟩)).mono ?_;intro e w2 hq;obtain⟨v,rfl⟩:=HQ.out _ _ hq)
 exact hq
theorem setL_mk {G:Gh} {S:Sub} {m:Mc} {w:World} {sh:List Nat} {u j n:Nat} {a:Ex} {xa:Value} (i:Inv G S m w) (hs:sh[u]? =some n) (hj:j<n) (hb:u≤1000000000∧n≤1000000000) (ha:CRep G sh a xa):Calls prog 374 #[bp G.mb,.agg #[.int .i64 (u:Int),.int .i64 (j:Int)],xa] w (Made G S m w sh (.setL u j a)):=by
 obtain⟨k1,c1,rfl,_⟩:=ha.isF
 refine qnv G.mb k1 u j c1 w _ Made.ends fun w' hw=>?_
 have i1:=Inv.lk hw (i.alloc (.cells #[.int .i64 (u:Int),.int .i64 (j:Int)] 395))
 have x1:=i.x1 (.cells #[.int .i64 (u:Int),.int .i64 (j:Int)] 395)
 have key:=qnt (sh:=sh) i1 (.loc u j a) (ha.mono x1.le) (.loc sh u j n w.heap.size hs hj hb (Gh.add_at _ _ _))
 exact Calls.mono key fun e w2 h=>h.after ((Mv.ext x1 (qab _ _)).lk hw)
theorem qs3 (mb k1:Nat) (t:ByteArray) (c1:Array Value) (w:World) (Q:Ending→World→Prop) (hQ:∀e w,Q e w→∃v,e=.returned v)
  (hK:∀w',Lk ((w.alloc (.cells #[.pointer (some ⟨mb,0,none⟩)] 107)).alloc (.cells #[.string t] 9)) w'→Calls prog 321 #[.pointer (some ⟨mb,0,none⟩),.func (.func k1) #[] c1,.func (.func 322) #[] #[.pointer (some ⟨w.heap.size,0,none⟩),.pointer (some ⟨w.heap.size+1,0,none⟩)]] w' Q):
  Calls prog 292 #[.pointer (some ⟨mb,0,none⟩),.string t,.func (.func k1) #[] c1] w Q:=by
 have HK:=hZ hK
 have HQ:=hZ hQ
 clear hK hQ
 go_enter func292,ntmps292
 go_wp2_with (go_at_call 321;refine(HK.out _ (by exact⟨rfl,rfl,rfl,rfl⟩)).mono ?_;intro e w2 hq;obtain⟨v,rfl⟩:=HQ.out _ _ hq)
 exact hq
theorem def_mk {G:Gh} {S:Sub} {m:Mc} {w:World} {sh:List Nat} {t:ByteArray} {a:Ex} {xa:Value} (i:Inv G S m w) (ha:CRep G sh a xa):Calls prog 292 #[bp G.mb,.string t,xa] w (Made G S m w sh (.defG t.data.toList a)):=by
 obtain⟨k1,c1,rfl,_⟩:=ha.isF
 refine qs3 G.mb k1 t c1 w _ Made.ends fun w' hw=>?_
 have i2:=Inv.lk hw (i.alloc2 (.cells #[bp G.mb] 107) (.cells #[.string t] 9))
 have x2:=i.x2 (.cells #[bp G.mb] 107) (.cells #[.string t] 9)
 have key:=qnt (sh:=sh) i2 (.def' t.data.toList a) (ha.mono x2.le) (.def' sh _ w.heap.size (w.heap.size+1) t (by
  show Gh.I _ _=_
  rw [qae _ (by omega)];exact Gh.add_at _ _ _) (Gh.add_at _ _ _) rfl)
 exact Calls.mono key fun e w2 h=>h.after ((Mv.ext x2 ((qab _ _).alloc (by simp) _)).lk hw)
theorem qsa (mb k1 k2:Nat) (c1 c2:Array Value) (w:World) (Q:Ending→World→Prop) (hQ:∀e w,Q e w→∃v,e=.returned v)
  (hK:∀w',Lk (((w.alloc (.cells #[.pointer (some ⟨mb,0,none⟩)] 107)).alloc (.cells #[.func (.func k1) #[] c1] 241)).alloc (.cells #[.func (.func k2) #[] c2] 440)) w'→Calls prog 339 #[.pointer (some ⟨mb,0,none⟩),.func (.func 382) #[] #[.pointer (some ⟨w.heap.size,0,none⟩),.pointer (some ⟨w.heap.size+1,0,none⟩),.pointer (some ⟨w.heap.size+2,0,none⟩)]] w' Q):
  Calls prog 357 #[.pointer (some ⟨mb,0,none⟩),.func (.func k1) #[] c1,.func (.func k2) #[] c2] w Q:=by
 have HK:=hZ hK
 have HQ:=hZ hQ
 clear hK hQ
 go_enter func357,ntmps357
 go_wp2_with (go_at_call 339;refine(HK.out _ (by exact⟨rfl,rfl,rfl,rfl⟩)).mono ?_;intro e w2 hq;obtain⟨v,rfl⟩:=HQ.out _ _ hq)
 exact hq
theorem SRep.isFunc {G:Gh} {sh:List Nat} {l:List Ex} {x:Value} (h:SRep G sh l x):∃k c,x=.func (.func k) #[] c:=by
 cases h with
 |one _ e _ h=>obtain⟨k,c,h,_⟩:=h.isF;exact⟨k,c,h⟩
 |cons=>exact⟨_,_,rfl⟩
theorem lam_mk {G:Gh} {S:Sub} {m:Mc} {w:World} {sh:List Nat} {n:Nat} {r:Bool} {l:List Ex} {xl xb:Value} (i:Inv G S m w) (hl:SRep G (n::sh) l xl) (hb:BRep G n r xb):Calls prog 357 #[bp G.mb,xl,xb] w (Made G S m w sh (.lam n r l)):=by
 obtain⟨k1,c1,rfl⟩:=hl.isFunc
 obtain⟨k2,c2,rfl⟩:∃k c,xb=.func (.func k) #[] c:=by cases hb <;> exact⟨_,_,rfl⟩
 refine qsa G.mb k1 k2 c1 c2 w _ Made.ends fun w' hw=>?_
 have i3:=Inv.lk hw (i.alloc3 (.cells #[bp G.mb] 107) (.cells #[.func (.func k1) #[] c1] 241) (.cells #[.func (.func k2) #[] c2] 440))
 have x3:=i.x3 (.cells #[bp G.mb] 107) (.cells #[.func (.func k1) #[] c1] 241) (.cells #[.func (.func k2) #[] c2] 440)
 have key:=qci (sh:=sh) (e:=.lam n r l) i3 (by
  refine .lam sh n r l w.heap.size (w.heap.size+1) (w.heap.size+2) _ _ ?_ ?_ (Gh.add_at _ _ _) (hl.mono x3.le) (hb.mono x3.le)
  ·show Gh.I _ _=_
   rw [qae _ (by omega),qae _ (by omega)];exact Gh.add_at _ _ _
  ·rw [qae _ (by omega)];exact Gh.add_at _ _ _)
 exact Calls.mono key fun e w2 h=>h.after ((Mv.ext x3 (((qab _ _).alloc (by simp) _).alloc (by simp;omega) _)).lk hw)
theorem qsb (mb k1:Nat) (n:Int) (c1:Array Value) (w:World) (Q:Ending→World→Prop) (hQ:∀e w,Q e w→∃v,e=.returned v)
  (hK:∀w',Lk ((w.alloc (.cells #[.pointer (some ⟨mb,0,none⟩)] 107)).alloc (.cells #[.int .i64 n] 3)) w'→Calls prog 357 #[.pointer (some ⟨mb,0,none⟩),.func (.func k1) #[] c1,.func (.func 363) #[] #[.pointer (some ⟨w.heap.size+1,0,none⟩),.pointer (some ⟨w.heap.size,0,none⟩)]] w' Q):
  Calls prog 326 #[.pointer (some ⟨mb,0,none⟩),.int .i64 n,.func (.func k1) #[] c1] w Q:=by
 have HK:=hZ hK
 have HQ:=hZ hQ
 clear hK hQ
 go_enter func326,ntmps326
 go_wp2_with (go_at_call 357;refine(HK.out _ (by exact⟨rfl,rfl,rfl,rfl⟩)).mono ?_;intro e w2 hq;obtain⟨v,rfl⟩:=HQ.out _ _ hq)
 exact hq
theorem qoy {G:Gh} {S:Sub} {m:Mc} {w:World} {sh:List Nat} {n:Nat} {l:List Ex} {xl:Value} (i:Inv G S m w) (hl:SRep G (n::sh) l xl):Calls prog 326 #[bp G.mb,.int .i64 (n:Int),xl] w (Made G S m w sh (.lam n false l)):=by
 obtain⟨k1,c1,rfl⟩:=hl.isFunc
 refine qsb G.mb k1 n c1 w _ Made.ends fun w' hw=>?_
 have i2:=Inv.lk hw (i.alloc2 (.cells #[bp G.mb] 107) (.cells #[.int .i64 (n:Int)] 3))
 have x2:=i.x2 (.cells #[bp G.mb] 107) (.cells #[.int .i64 (n:Int)] 3)
 have key:=lam_mk (sh:=sh) i2 (hl.mono x2.le) (.num n (w.heap.size+1) w.heap.size (Gh.add_at _ _ _) (by
  show Gh.I _ _=_
  rw [qae _ (by omega)];exact Gh.add_at _ _ _))
 exact Calls.mono key fun e w2 h=>h.after ((Mv.ext x2 ((qab _ _).alloc (by simp) _)).lk hw)
theorem qsc (mb k1:Nat) (c1:Array Value) (w:World) (Q:Ending→World→Prop) (hQ:∀e w,Q e w→∃v,e=.returned v)
  (hK:∀w',Lk (w.alloc (.cells #[.pointer (some ⟨mb,0,none⟩)] 107)) w'→Calls prog 357 #[.pointer (some ⟨mb,0,none⟩),.func (.func k1) #[] c1,.func (.func 358) #[] #[.pointer (some ⟨w.heap.size,0,none⟩)]] w' Q):
  Calls prog 323 #[.pointer (some ⟨mb,0,none⟩),.func (.func k1) #[] c1] w Q:=by
 have HK:=hZ hK
 have HQ:=hZ hQ
 clear hK hQ
 go_enter func323,ntmps323
 go_wp2_with (go_at_call 357;refine(HK.out _ (by exact⟨rfl,rfl,rfl,rfl⟩)).mono ?_;intro e w2 hq;obtain⟨v,rfl⟩:=HQ.out _ _ hq)
 exact hq
theorem qma {G:Gh} {S:Sub} {m:Mc} {w:World} {sh:List Nat} {l:List Ex} {xl:Value} (i:Inv G S m w) (hl:SRep G (1::sh) l xl):Calls prog 323 #[bp G.mb,xl] w (Made G S m w sh (.lam 1 true l)):=by
 obtain⟨k1,c1,rfl⟩:=hl.isFunc
 refine qsc G.mb k1 c1 w _ Made.ends fun w' hw=>?_
 have i1:=Inv.lk hw (i.alloc (.cells #[bp G.mb] 107))
 have x1:=i.x1 (.cells #[bp G.mb] 107)
 have key:=lam_mk (sh:=sh) i1 (hl.mono x1.le) (.rest w.heap.size (Gh.add_at _ _ _))
 exact Calls.mono key fun e w2 h=>h.after ((Mv.ext x1 (qab _ _)).lk hw)
end
section
open Sc
theorem qht (G:Gh) (S:Sub) (m:Mc) (w:World) (t:ByteArray) (i:Inv G S m w):
  Calls prog 227 #[bp G.mb,.string t] w fun e w'=>∃H b,e=.returned (bp b)∧Mv G w H w'∧Inv H S m w'∧(t.data.toList,b)∈H.B:=by
 obtain⟨es,clock,hmp,hB⟩:=i.mp
 have c2:=i.mb2
 have hl:=qdl G.mp es clock G.B t w hmp hB
 cases hb:lookB t.data.toList G.B with
 |some b=>
  rw [hb]at hl
  have hl:(Instr.lookup 114 (.map (some G.mp)) (.string t) false).run prog w=.ok (.pointer (some ⟨b,0,none⟩)) w:=hl
  have HI:=hZ i
  have HB:=hZ (qep hb)
  clear i hmp hB hb
  go_enter func227,ntmps227
  go_wp2
  go_ret
  exact⟨G,b,rfl,Mv.refl G w,HI.out,HB.out⟩
 |none=>
  rw [hb]at hl
  have hl:(Instr.lookup 114 (.map (some G.mp)) (.string t) false).run prog w=.ok (.pointer none) w:=hl
  have hmpl:G.mp<w.heap.size:=(Array.getElem?_eq_some_iff.1 hmp).1
  have hu:=qcb G.mp w.heap.size es clock G.B t (w.alloc (.cells #[.nilIface] 318)) (by rw [Below.heap_alloc _ _ _ hmpl];exact hmp) hB hb
  have k2:(w.alloc (.cells #[.nilIface] 318)).cell? ⟨G.mb,2,none⟩=some (.map (some G.mp)):=(qad (qac c2) _).trans c2
  have HI:=hZ i
  have HB:=hZ hB
  have HN:=hZ (qcr hb)
  have HM:=hZ hmp
  clear i hB hb hmp
  go_enter func227,ntmps227
  go_wp2
  go_ret
  have i1:=HI.out.below ((Below.refl _ _).alloc (Nat.le_refl _) (.cells #[.nilIface] 318))
  refine⟨G.glob t.data.toList w.heap.size,w.heap.size,rfl,⟨G.up_glob _ _,fun _=>rfl,fun {b} hb=>?_,fun {c} hcl hc=>?_,by simp⟩,i1.newGlob HN.out (heap_alloc_new _ _) (fun h=>by have:=HI.out.ml h;omega) (HI.out.fresh (Nat.le_refl _)) (fun h=>by have:=(HI.out.ff h).2;omega) ?_ (by simp) ⟨rfl,rfl,rfl⟩ ⟨es.push ⟨.string t,bp w.heap.size,clock⟩,clock+1,?_,?_⟩,?_⟩
  ·simp only [Gh.mut,Gh.glob,Gh.rows,List.mem_cons,List.mem_append,List.map_append,List.map_cons,List.map_nil,List.not_mem_nil,or_false]at hb⊢
   rcases hb with h|h|h|h|(h|h)|h
   ·exact .inl (.inl h)
   ·exact .inl (.inr (.inl h))
   ·exact .inl (.inr (.inr (.inl h)))
   ·exact .inl (.inr (.inr (.inr (.inl h))))
   ·exact .inl (.inr (.inr (.inr (.inr (.inl h)))))
   ·exact .inr (by omega)
   ·exact .inl (.inr (.inr (.inr (.inr (.inr h)))))
  ·have hcm:c≠G.mp:=fun e=>hc (e▸HI.out.m4)
   simp [Ne.symm hcm,Below.heap_alloc _ _ _ hcl]
  ·intro c hc
   simp [Ne.symm hc]
  ·simp [Array.getElem?_setIfInBounds];omega
  ·simp [HB.out]
  ·exact List.mem_append_right _ (by simp)
theorem qsl (mb:Nat) (t:ByteArray) (w:World) (Q:Ending→World→Prop) (hQ:∀e w,Q e w→∃v,e=.returned v)
  (hG:Calls prog 227 #[.pointer (some ⟨mb,0,none⟩),.string t] w fun e w1=>∃b,e=.returned (.pointer (some ⟨b,0,none⟩))∧∀w',Lk (w1.alloc (.cells #[.pointer (some ⟨b,0,none⟩)] 319)) w'→Calls prog 339 #[.pointer (some ⟨mb,0,none⟩),.func (.func 368) #[] #[.pointer (some ⟨w1.heap.size,0,none⟩)]] w' Q):
  Calls prog 332 #[.pointer (some ⟨mb,0,none⟩),.string t] w Q:=by
 have HG:=hZ hG
 have HQ:=hZ hQ
 clear hG hQ
 go_enter func332,ntmps332
 go_wp2_with (go_at_call 227;refine HG.out.mono ?_;rintro e w1 ⟨b,rfl,hk⟩;have HK:=hZ hk;clear hk;refine Hid.out ?_)
 refine hZ ?_
 go_wp2_with (go_at_call 339;refine(HK.out _ (by exact⟨rfl,rfl,rfl,rfl⟩)).mono ?_;intro e w2 hq;obtain⟨v,rfl⟩:=HQ.out _ _ hq)
 exact hq
theorem glo_mk {G:Gh} {S:Sub} {m:Mc} {w:World} {sh:List Nat} {t:ByteArray} (i:Inv G S m w):Calls prog 332 #[bp G.mb,.string t] w (Made G S m w sh (.glo t.data.toList)):=by
 refine qsl G.mb t w _ Made.ends ?_
 refine Calls.mono (qht G S m w t i) ?_
 rintro e w1 ⟨H,b,rfl,hm,hi,hb⟩
 refine⟨b,rfl,fun w' hw=>?_⟩
 have i1:=Inv.lk hw (hi.alloc (.cells #[bp b] 319))
 have x1:=hi.x1 (.cells #[bp b] 319)
 have key:=qci (sh:=sh) (e:=.glo t.data.toList) i1 (.glo sh _ w1.heap.size b (Gh.add_at _ _ _) (x1.le.B hb))
 have hmb:H.mb=G.mb:=hm.up.le.mb
 have e1:(H.add w1.heap.size (.cells #[bp b] 319)).mb=G.mb:=hmb
 rw [e1]at key
 exact Calls.mono key fun e w2 h=>h.after (hm.trans ((Mv.ext x1 (qab _ _)).lk hw))
theorem qnw (mb k1:Nat) (c1:Array Value) (t:ByteArray) (w:World) (Q:Ending→World→Prop) (hQ:∀e w,Q e w→∃v,e=.returned v)
  (hG:Calls prog 227 #[.pointer (some ⟨mb,0,none⟩),.string t] w fun e w1=>∃b,e=.returned (.pointer (some ⟨b,0,none⟩))∧∀w',Lk (w1.alloc (.cells #[.pointer (some ⟨b,0,none⟩)] 319)) w'→Calls prog 321 #[.pointer (some ⟨mb,0,none⟩),.func (.func k1) #[] c1,.func (.func 401) #[] #[.pointer (some ⟨w1.heap.size,0,none⟩)]] w' Q):
  Calls prog 375 #[.pointer (some ⟨mb,0,none⟩),.string t,.func (.func k1) #[] c1] w Q:=by
 have HG:=hZ hG
 have HQ:=hZ hQ
 clear hG hQ
 go_enter func375,ntmps375
 go_wp2_with (go_at_call 227;refine HG.out.mono ?_;rintro e w1 ⟨b,rfl,hk⟩;have HK:=hZ hk;clear hk;refine Hid.out ?_)
 refine hZ ?_
 go_wp2_with (go_at_call 321;refine(HK.out _ (by exact⟨rfl,rfl,rfl,rfl⟩)).mono ?_;intro e w2 hq;obtain⟨v,rfl⟩:=HQ.out _ _ hq)
 exact hq
theorem setG_mk {G:Gh} {S:Sub} {m:Mc} {w:World} {sh:List Nat} {t:ByteArray} {a:Ex} {xa:Value} (i:Inv G S m w) (ha:CRep G sh a xa):Calls prog 375 #[bp G.mb,.string t,xa] w (Made G S m w sh (.setG t.data.toList a)):=by
 obtain⟨k1,c1,rfl,_⟩:=ha.isF
 refine qnw G.mb k1 c1 t w _ Made.ends ?_
 refine Calls.mono (qht G S m w t i) ?_
 rintro e w1 ⟨H,b,rfl,hm,hi,hb⟩
 refine⟨b,rfl,fun w' hw=>?_⟩
 have i1:=Inv.lk hw (hi.alloc (.cells #[bp b] 319))
 have x1:=hi.x1 (.cells #[bp b] 319)
 have key:=qnt (sh:=sh) i1 (.glo t.data.toList a) ((ha.mono hm.up.le).mono x1.le) (.glo sh _ w1.heap.size b (Gh.add_at _ _ _) (x1.le.B hb))
 have hmb:H.mb=G.mb:=hm.up.le.mb
 have e1:(H.add w1.heap.size (.cells #[bp b] 319)).mb=G.mb:=hmb
 rw [e1]at key
 exact Calls.mono key fun e w2 h=>h.after (hm.trans ((Mv.ext x1 (qab _ _)).lk hw))
theorem qm5 (mb:Nat) (sa:Option Addr) (sn sc:Nat) (w:World) (Q:Ending→World→Prop) (hQ:∀e w,Q e w→∃v,e=.returned v)
  (hS:∀w',Lk w w'→Calls prog 361 #[.slice sa sn sc] w' fun e w1=>∃kc cc,e=.returned (.func (.func kc) #[] cc)∧∀w2,Lk w1 w2→Calls prog 339 #[.pointer (some ⟨mb,0,none⟩),.func (.func kc) #[] cc] w2 Q):
  Calls prog 338 #[.pointer (some ⟨mb,0,none⟩),.slice sa sn sc] w Q:=by
 have HS:=hZ hS
 have HQ:=hZ hQ
 clear hS hQ
 go_enter func338,ntmps338
 go_wp2_with (go_at_call 361;refine(HS.out _ (by exact⟨rfl,rfl,rfl,rfl⟩)).mono ?_;rintro e w1 ⟨kc,cc,rfl,hk⟩;have HK:=hZ hk;clear hk;refine Hid.out ?_)
 refine hZ ?_
 go_wp2_with (go_at_call 339;refine(HK.out _ (by exact⟨rfl,rfl,rfl,rfl⟩)).mono ?_;intro e w2 hq;obtain⟨v,rfl⟩:=HQ.out _ _ hq)
 exact hq
end
end Go.Proofs.YtldaocpojcfljaaGreatDoor
