import Derived.Test.YtldaocpojcfljaaGreatDoorD12
set_option maxRecDepth 100000
set_option maxHeartbeats 4000000
namespace Go.Proofs.YtldaocpojcfljaaGreatDoor
open Tryz hiding parts
open Go.RowKit Go.Shelf
section
open Sc
theorem eg178:Eg 178:=qak func178 (by kernel_rfl) (by kernel_rfl)
theorem eg179:Eg 179:=qak func179 (by kernel_rfl) (by kernel_rfl)
theorem eg180:Eg 180:=qak func180 (by kernel_rfl) (by kernel_rfl)
theorem eg181:Eg 181:=qak func181 (by kernel_rfl) (by kernel_rfl)
theorem eg182:Eg 182:=qak func182 (by kernel_rfl) (by kernel_rfl)
theorem eg183:Eg 183:=qak func183 (by kernel_rfl) (by kernel_rfl)
theorem eg184:Eg 184:=qak func184 (by kernel_rfl) (by kernel_rfl)
theorem eg199:Eg 199:=qak func199 (by kernel_rfl) (by kernel_rfl)
theorem eg202:Eg 202:=qak func202 (by kernel_rfl) (by kernel_rfl)
theorem eg203:Eg 203:=qak func203 (by kernel_rfl) (by kernel_rfl)
theorem eg260:Eg 260:=qak func260 (by kernel_rfl) (by kernel_rfl)
theorem eg261:Eg 261:=qak func261 (by kernel_rfl) (by kernel_rfl)
theorem eg262:Eg 262:=qak func262 (by kernel_rfl) (by kernel_rfl)
theorem eg263:Eg 263:=qak func263 (by kernel_rfl) (by kernel_rfl)
theorem eg264:Eg 264:=qak func264 (by kernel_rfl) (by kernel_rfl)
theorem eg265:Eg 265:=qak func265 (by kernel_rfl) (by kernel_rfl)
theorem eg266:Eg 266:=qak func266 (by kernel_rfl) (by kernel_rfl)
theorem eg267:Eg 267:=qak func267 (by kernel_rfl) (by kernel_rfl)
theorem eg194:Eg 194:=qak func194 (by kernel_rfl) (by kernel_rfl)
theorem eg196:Eg 196:=qak func196 (by kernel_rfl) (by kernel_rfl)
theorem eg197:Eg 197:=qak func197 (by kernel_rfl) (by kernel_rfl)
theorem eg205:Eg 205:=qak func205 (by kernel_rfl) (by kernel_rfl)
theorem eg208:Eg 208:=qak func208 (by kernel_rfl) (by kernel_rfl)
theorem eg211:Eg 211:=qak func211 (by kernel_rfl) (by kernel_rfl)
theorem eg215:Eg 215:=qak func215 (by kernel_rfl) (by kernel_rfl)
theorem eg217:Eg 217:=qak func217 (by kernel_rfl) (by kernel_rfl)
theorem eg220:Eg 220:=qak func220 (by kernel_rfl) (by kernel_rfl)
theorem eg224:Eg 224:=qak func224 (by kernel_rfl) (by kernel_rfl)
theorem eg225:Eg 225:=qak func225 (by kernel_rfl) (by kernel_rfl)
theorem simP(S:Sub)(n:Nat):SimP S n:=by
 intro G m w p al k kx ku cx cu sa sn sc tw i hp hk hr he;cases hp with
 |bare q hf h=>
  cases p with
  |add=>exact qbg (qav S n).2 .add 178 eg178 rfl rfl rfl (fun _ _ _=>rfl) G m w al k q ku cu sa sn sc (add_num S G m) i h hk hr he
  |sub=>exact qbg (qav S n).2 .sub 179 eg179 rfl rfl rfl (fun _ _ _=>rfl) G m w al k q ku cu sa sn sc (sub_num S G m) i h hk hr he
  |mul=>exact qbg (qav S n).2 .mul 180 eg180 rfl rfl rfl (fun _ _ _=>rfl) G m w al k q ku cu sa sn sc (mul_num S G m) i h hk hr he
  |quot=>exact qbg (qav S n).2 .quot 181 eg181 rfl rfl rfl (fun _ _ _=>rfl) G m w al k q ku cu sa sn sc (qro S G m) i h hk hr he
  |rem=>exact qbg (qav S n).2 .rem 182 eg182 rfl rfl rfl (fun _ _ _=>rfl) G m w al k q ku cu sa sn sc (rem_num S G m) i h hk hr he
  |eql=>exact qbg (qav S n).2 .eql 183 eg183 rfl rfl rfl (fun _ _ _=>rfl) G m w al k q ku cu sa sn sc (qpd S G m) i h hk hr he
  |lss=>exact qbg (qav S n).2 .lss 184 eg184 rfl rfl rfl (fun _ _ _=>rfl) G m w al k q ku cu sa sn sc (qot S G m) i h hk hr he
  |nullQ=>exact qar .nullQ 260 #[] eg260 rfl rfl rfl (fun _ _ _=>rfl) G m w al k q ku cu sa sn sc (fun H w v x _ i hv=>ql4 m H w v x i hv) i h hk hr he
  |pairQ=>exact qar .pairQ 261 #[] eg261 rfl rfl rfl (fun _ _ _=>rfl) G m w al k q ku cu sa sn sc (fun H w v x _ i hv=>qlu m H w v x i hv) i h hk hr he
  |intQ=>exact qar .intQ 262 #[] eg262 rfl rfl rfl (fun _ _ _=>rfl) G m w al k q ku cu sa sn sc (fun H w v x _ i hv=>qo3 m H w v x i hv) i h hk hr he
  |symQ=>exact qar .symQ 263 #[] eg263 rfl rfl rfl (fun _ _ _=>rfl) G m w al k q ku cu sa sn sc (fun H w v x _ i hv=>qnk m H w v x i hv) i h hk hr he
  |strQ=>exact qar .strQ 264 #[] eg264 rfl rfl rfl (fun _ _ _=>rfl) G m w al k q ku cu sa sn sc (fun H w v x _ i hv=>qno m H w v x i hv) i h hk hr he
  |boolQ=>exact qar .boolQ 265 #[] eg265 rfl rfl rfl (fun _ _ _=>rfl) G m w al k q ku cu sa sn sc (fun H w v x _ i hv=>qm2 m H w v x i hv) i h hk hr he
  |procQ=>exact qar .procQ 266 #[] eg266 rfl rfl rfl (fun _ _ _=>rfl) G m w al k q ku cu sa sn sc (fun H w v x _ i hv=>qls m H w v x i hv) i h hk hr he
  |sealQ=>exact qar .sealQ 267 #[] eg267 rfl rfl rfl (fun _ _ _=>rfl) G m w al k q ku cu sa sn sc (fun H w v x _ i hv=>qll m H w v x i hv) i h hk hr he
  |not=>exact qar .not 194 #[] eg194 rfl rfl rfl (fun _ _ _=>rfl) G m w al k q ku cu sa sn sc (fun H w v x _ i hv=>qrt m H w v x i hv) i h hk hr he
  |error=>exact qar .error 224 #[] eg224 rfl rfl rfl (fun _ _ _=>rfl) G m w al k q ku cu sa sn sc (fun H w v x hu i hv=>qmo m H w v x (tw.up hu) i hv) i h hk hr he
  |eqQ=>exact qbz .eqQ 196 #[] eg196 rfl rfl rfl (fun _ _ _=>rfl) G m w al k q ku _ cu sa sn sc (fun H w v u x y _ i hv hu=>eq_work m H w v u x y i hv hu) i h hk hr he
  |car=>exact qdz .car 202 #[] eg202 rfl rfl rfl (fun _ _ _=>rfl) G m w al k q ku _ cu sa sn sc (fun H w v b _ i hv=>qs9 m H w v b i hv) i h hk hr he
  |cdr=>exact qdz .cdr 203 #[] eg203 rfl rfl rfl (fun _ _ _=>rfl) G m w al k q ku _ cu sa sn sc (fun H w v b _ i hv=>qs7 m H w v b i hv) i h hk hr he
  |strLength=>exact qh7 .strLength 215 #[] eg215 rfl rfl rfl (fun _ _ _=>rfl) G m w al k q ku _ cu sa sn sc (fun H w v b _ i hv=>qii m H w v b i hv) i h hk hr he
  |_=>exact absurd hf (by decide)
 |mach q r hf h hb=>
  cases p with
  |cons=>exact qbz .cons 199 #[bp r] eg199 rfl rfl rfl (fun _ _ _=>rfl) G m w al k q ku _ cu sa sn sc (fun H w v u x y hu i hv hv2=>qp0 m H w v u x y r (hu.le.mbox hb) i hv hv2) i h hk hr he
  |equalQ=>exact qbz .equalQ 197 #[bp r] eg197 rfl rfl rfl (fun _ _ _=>rfl) G m w al k q ku _ cu sa sn sc (fun H w v u x y hu i hv hv2=>qmp m H w v u x y r (hu.le.mbox hb) i hv hv2) i h hk hr he
  |append=>exact qbz .append 208 #[bp r] eg208 rfl rfl rfl (fun _ _ _=>rfl) G m w al k q ku _ cu sa sn sc (fun H w v u x y hu i hv hv2=>qj3 m H w v u x y r (hu.le.mbox hb) i hv hv2) i h hk hr he
  |length=>exact qar .length 205 #[bp r] eg205 rfl rfl rfl (fun _ _ _=>rfl) G m w al k q ku cu sa sn sc (fun H w v x hu i hv=>qjg m H w v x r (hu.le.mbox hb) i hv) i h hk hr he
  |«seal»=>exact qar .«seal» 225 #[bp r] eg225 rfl rfl rfl (fun _ _ _=>rfl) G m w al k q ku cu sa sn sc (fun H w v x hu i hv=>qnz m H w v x r (hu.le.mbox hb) i hv) i h hk hr he
  |strAppend=>exact qh4 .strAppend 211 #[bp r] eg211 rfl rfl rfl (fun _ _ _=>rfl) G m w al k q ku _ cu sa sn sc (fun w a b hza hzb i=>qij m G w a b r hb hza hzb i) i h hk hr he
  |numStr=>exact qh6 .numStr 217 #[bp r] eg217 rfl rfl rfl (fun _ _ _=>rfl) G m w al k q ku _ cu sa sn sc (fun H w v b hu i hv=>qi1 m H w v b r (hu.le.mbox hb) (tw.up hu) i hv) i h hk hr he
  |symStr=>exact qh5 .symStr 220 #[bp r] eg220 rfl rfl rfl (fun _ _ _=>rfl) G m w al k q ku _ cu sa sn sc (fun H w v b hu i hv=>qih m H w v b r (hu.le.mbox hb) i hv) i h hk hr he
  |_=>exact absurd hf (by decide)
 |self q hf h=>
  cases p with
  |list=>exact carry_list G m w al k q ku cu sa sn sc i h hk hr he
  |apply=>exact qj1 G m w al k q ku cu sa sn sc i h hk hr
  |callcc=>exact qh8 G m w al k q ku cu sa sn sc i h hk hr
  |wind=>exact qm1 G m w al k q ku cu sa sn sc i h hk hr
  |_=>exact absurd hf (by decide)
end
section
open Sc
structure Mv (G:Gh) (w:World) (H:Gh) (w':World):Prop where
 up:G.up H
 I:∀{b:Nat},b<w.heap.size->H.I b=G.I b
 mu:∀{b:Nat},b∈H.mut->b∈G.mut\/w.heap.size<=b
 blk:∀{k:Nat},k<w.heap.size->k∉G.mut->w'.heap[k]? =w.heap[k]?
 size:w.heap.size<=w'.heap.size
theorem Mv.refl(G:Gh)(w:World):Mv G w G w:=⟨Gh.up.refl G,fun _=>rfl,.inl,fun _ _=>rfl,Nat.le_refl _⟩
theorem Mv.trans{G H L:Gh}{w w1 w2:World}(a:Mv G w H w1)(b:Mv H w1 L w2):Mv G w L w2:=
 ⟨a.up.trans b.up,fun h=>(b.I (Nat.lt_of_lt_of_le h a.size)).trans (a.I h),fun h=>(b.mu h).elim a.mu (fun h=>.inr (Nat.le_trans a.size h)),fun hk hn=>(b.blk (Nat.lt_of_lt_of_le hk a.size) (fun h=>(a.mu h).elim hn (fun h=>by omega))).trans (a.blk hk hn),Nat.le_trans a.size b.size⟩
theorem Mv.lk{G H:Gh}{w w1 w2:World}(a:Mv G w H w1)(h:Lk w1 w2):Mv G w H w2:=⟨a.up,a.I,a.mu,fun hk hn=>by rw[h.heap];exact a.blk hk hn,by rw[h.heap];exact a.size⟩
theorem Mv.ext{G H:Gh}{w w':World}(x:G.ext H w.heap.size)(b:Below w.heap.size w w'):Mv G w H w':=⟨x.up,fun h=>x.I h,fun h=>.inl (by rw[<-x.mut];exact h),fun hk _=>b.block _ hk,b.size⟩
theorem Mv.lkl{G H:Gh}{w w1 w2:World}(h:Lk w w1)(a:Mv G w1 H w2):Mv G w H w2:=by
 obtain⟨a1,a2,a3,a4,a5⟩:=a;rw[h.heap]at a2 a3 a4 a5;exact⟨a1,a2,a3,a4,a5⟩
theorem qab(w:World)(o:Obj):Below w.heap.size w (w.alloc o):=(Below.refl _ _).alloc (Nat.le_refl _) _
def Made(G:Gh)(S:Sub)(m:Mc)(w:World)(sh:List Nat)(e:Ex)(e':Ending)(w':World):Prop:=∃H x,e'=.returned x/\Mv G w H w'/\Inv H S m w'/\CRep H sh e x
theorem Made.ends{G:Gh}{S:Sub}{m:Mc}{w:World}{sh:List Nat}{e:Ex}:∀e' w',Made G S m w sh e e' w'->∃v,e'=.returned v:=fun _ _ ⟨_,x,h,_⟩=>⟨x,h⟩
theorem Made.after{G H:Gh}{S:Sub}{m:Mc}{w w1:World}{sh:List Nat}{e:Ex}{e':Ending}{w':World}(a:Mv G w H w1)(h:Made H S m w1 sh e e' w'):Made G S m w sh e e' w':=by
 obtain⟨L,x,h1,h2,h3,h4⟩:=h;exact⟨L,x,h1,a.trans h2,h3,h4⟩
theorem qli(mb kc:Nat)(cc:Array Value)(w:World):Calls prog 339 #[.pointer (some ⟨mb,0,none⟩),.func (.func kc) #[] cc] w fun e w'=>
  e=.returned (.func (.func 376) #[] #[.pointer (some ⟨w.heap.size,0,none⟩),.pointer (some ⟨w.heap.size+1,0,none⟩)])/\Lk ((w.alloc (.cells #[.pointer (some ⟨mb,0,none⟩)] 107)).alloc (.cells #[.func (.func kc) #[] cc] 241)) w':=by
 go_enter func339,ntmps339
 go_wp2;go_ret;exact⟨rfl,rfl,rfl,rfl,rfl⟩
theorem qci{G:Gh}{S:Sub}{m:Mc}{w:World}{sh:List Nat}{e:Ex}{kc:Nat}{cc:Array Value}(i:Inv G S m w)(hy:IRep G sh e (.func (.func kc) #[] cc)):Calls prog 339 #[bp G.mb,.func (.func kc) #[] cc] w (Made G S m w sh e):=by
 refine Calls.mono (qli G.mb kc cc w) ?_;rintro e' w' ⟨rfl,hw⟩;have i2:=i.alloc2 (.cells #[bp G.mb] 107) (.cells #[.func (.func kc) #[] cc] 241);have x2:=i.x2 (.cells #[bp G.mb] 107) (.cells #[.func (.func kc) #[] cc] 241);refine⟨_,_,rfl,(Mv.ext x2 ((qab _ _).alloc (by simp) _)).lk hw,Inv.lk hw i2,.step sh e _ _ _ ?_ (Gh.add_at _ _ _) (hy.mono x2.le)⟩;show Gh.I _ _=_;rw[qae _ (by omega)];exact Gh.add_at _ _ _
theorem ql6(mb:Nat)(u i:Int)(w:World)(Q:Ending->World->Prop)(hQ:∀e w,Q e w->∃v,e=.returned v)
  (hK:∀w',Lk (w.alloc (.cells #[.int .i64 u,.int .i64 i] 395)) w'->Calls prog 339 #[.pointer (some ⟨mb,0,none⟩),.func (.func 366) #[] #[.pointer (some ⟨w.heap.size,0,none⟩)]] w' Q):
  Calls prog 331 #[.pointer (some ⟨mb,0,none⟩),.agg #[.int .i64 u,.int .i64 i]] w Q:=by
 have HK:=hZ hK;have HQ:=hZ hQ;clear hK hQ;go_enter func331,ntmps331
 go_wp2_with (go_at_call 339;refine(HK.out _ (by exact⟨rfl,rfl,rfl,rfl⟩)).mono ?_;intro e w2 hq;obtain⟨v,rfl⟩:=HQ.out _ _ hq)
 exact hq
theorem qr1{G:Gh}{S:Sub}{m:Mc}{w:World}{sh:List Nat}{u j n:Nat}(i:Inv G S m w)(hs:sh[u]? =some n)(hj:j<n)(hb:u<=1000000000/\n<=1000000000):Calls prog 331 #[bp G.mb,.agg #[.int .i64 (u:Int),.int .i64 (j:Int)]] w (Made G S m w sh (.loc u j)):=by
 refine ql6 G.mb u j w _ Made.ends fun w' hw=>?_
 have i1:=Inv.lk hw (i.alloc (.cells #[.int .i64 (u:Int),.int .i64 (j:Int)] 395));have x1:=i.x1 (.cells #[.int .i64 (u:Int),.int .i64 (j:Int)] 395);have key:=qci (sh:=sh) (e:=.loc u j) i1 (.loc sh u j n w.heap.size hs hj hb (Gh.add_at _ _ _));exact Calls.mono key fun e w2 h=>h.after ((Mv.ext x1 (qab _ _)).lk hw)
theorem if373_w(mb k1 k2 k3:Nat)(c1 c2 c3:Array Value)(w:World)(Q:Ending->World->Prop)(hQ:∀e w,Q e w->∃v,e=.returned v)
  (hK:∀w',Lk (((w.alloc (.cells #[.func (.func k1) #[] c1] 241)).alloc (.cells #[.func (.func k2) #[] c2] 241)).alloc (.cells #[.func (.func k3) #[] c3] 241)) w'->Calls prog 339 #[.pointer (some ⟨mb,0,none⟩),.func (.func 398) #[] #[.pointer (some ⟨w.heap.size,0,none⟩),.pointer (some ⟨w.heap.size+2,0,none⟩),.pointer (some ⟨w.heap.size+1,0,none⟩)]] w' Q):
  Calls prog 373 #[.pointer (some ⟨mb,0,none⟩),.func (.func k1) #[] c1,.func (.func k2) #[] c2,.func (.func k3) #[] c3] w Q:=by
 have HK:=hZ hK;have HQ:=hZ hQ;clear hK hQ;go_enter func373,ntmps373
 go_wp2_with (go_at_call 339;refine(HK.out _ (by exact⟨rfl,rfl,rfl,rfl⟩)).mono ?_;intro e w2 hq;obtain⟨v,rfl⟩:=HQ.out _ _ hq)
 exact hq
theorem if_mk{G:Gh}{S:Sub}{m:Mc}{w:World}{sh:List Nat}{c t:Ex}{o:Option Ex}{xc xt xo:Value}(i:Inv G S m w)(hc:CRep G sh c xc)(ht:CRep G sh t xt)(ho:ORep G sh o xo):Calls prog 373 #[bp G.mb,xc,xt,xo] w (Made G S m w sh (.ite c t o)):=by
 obtain⟨k1,c1,rfl,_⟩:=hc.isF;obtain⟨k2,c2,rfl,_⟩:=ht.isF;obtain⟨k3,c3,rfl⟩:∃k c,xo=.func (.func k) #[] c:=by
  cases ho with
  |none=>exact⟨_,_,rfl⟩
  |some _ e _ h=>obtain⟨k,c,h,_⟩:=h.isF;exact⟨k,c,h⟩
 refine if373_w G.mb k1 k2 k3 c1 c2 c3 w _ Made.ends fun w' hw=>?_
 have i3:=Inv.lk hw (i.alloc3 (.cells #[.func (.func k1) #[] c1] 241) (.cells #[.func (.func k2) #[] c2] 241) (.cells #[.func (.func k3) #[] c3] 241));have x3:=i.x3 (.cells #[.func (.func k1) #[] c1] 241) (.cells #[.func (.func k2) #[] c2] 241) (.cells #[.func (.func k3) #[] c3] 241);have key:=qci (sh:=sh) (e:=.ite c t o) i3 (by
  refine(.ite sh c t o w.heap.size (w.heap.size+2) (w.heap.size+1) _ _ _ ?_ (Gh.add_at _ _ _) ?_ (hc.mono x3.le) (ht.mono x3.le) (ho.mono x3.le))
  ·rw[qae _ (by omega),qae _ (by omega)];exact Gh.add_at _ _ _
  ·rw[qae _ (by omega)];exact Gh.add_at _ _ _
  )
 exact Calls.mono key fun e w2 h=>h.after ((Mv.ext x3 (((qab _ _).alloc (by simp) _).alloc (by simp;omega) _)).lk hw)
theorem qth(mb:Nat)(sa:Option Addr)(sn sc:Nat)(w:World)(Q:Ending->World->Prop)(hQ:∀e w,Q e w->∃v,e=.returned v)
  (hK:∀w',Lk ((w.alloc (.cells #[.pointer (some ⟨mb,0,none⟩)] 107)).alloc (.cells #[.slice sa sn sc] 426)) w'->Calls prog 339 #[.pointer (some ⟨mb,0,none⟩),.func (.func 370) #[] #[.pointer (some ⟨w.heap.size,0,none⟩),.pointer (some ⟨w.heap.size+1,0,none⟩)]] w' Q):
  Calls prog 333 #[.pointer (some ⟨mb,0,none⟩),.slice sa sn sc] w Q:=by
 have HK:=hZ hK;have HQ:=hZ hQ;clear hK hQ;go_enter func333,ntmps333
 go_wp2_with (go_at_call 339;refine(HK.out _ (by exact⟨rfl,rfl,rfl,rfl⟩)).mono ?_;intro e w2 hq;obtain⟨v,rfl⟩:=HQ.out _ _ hq)
 exact hq
theorem app_mk{G:Gh}{S:Sub}{m:Mc}{w:World}{sh:List Nat}{f:Ex}{l:List Ex}{sa:Option Addr}{sn sc:Nat}{xs:List Value}(i:Inv G S m w)(hb:xs.length<=90000)(hr:RowI G 241 (.slice sa sn sc) xs)(hx:XRep G sh (f::l) xs):Calls prog 333 #[bp G.mb,.slice sa sn sc] w (Made G S m w sh (.app f l)):=by
 refine qth G.mb sa sn sc w _ Made.ends fun w' hw=>?_
 have i2:=Inv.lk hw (i.alloc2 (.cells #[bp G.mb] 107) (.cells #[.slice sa sn sc] 426));have x2:=i.x2 (.cells #[bp G.mb] 107) (.cells #[.slice sa sn sc] 426);have key:=qci (sh:=sh) (e:=.app f l) i2 (by
  refine(.app sh f l w.heap.size (w.heap.size+1) _ xs ?_ (Gh.add_at _ _ _) hb (hr.mono x2.le) (hx.mono x2.le));show Gh.I _ _=_;rw[qae _ (by omega)];exact Gh.add_at _ _ _
  )
 exact Calls.mono key fun e w2 h=>h.after ((Mv.ext x2 ((qab _ _).alloc (by simp) _)).lk hw)
theorem qrd(mb k1 k2:Nat)(c1 c2:Array Value)(w:World)(Q:Ending->World->Prop)(hQ:∀e w,Q e w->∃v,e=.returned v)
  (hK:∀w',Lk ((w.alloc (.cells #[.func (.func k1) #[] c1] 241)).alloc (.cells #[.func (.func k2) #[] c2] 413)) w'->Calls prog 339 #[.pointer (some ⟨mb,0,none⟩),.func (.func 355) #[] #[.pointer (some ⟨w.heap.size,0,none⟩),.pointer (some ⟨w.heap.size+1,0,none⟩)]] w' Q):
  Calls prog 321 #[.pointer (some ⟨mb,0,none⟩),.func (.func k1) #[] c1,.func (.func k2) #[] c2] w Q:=by
 have HK:=hZ hK;have HQ:=hZ hQ;clear hK hQ;go_enter func321,ntmps321
 go_wp2_with (go_at_call 339;refine(HK.out _ (by exact⟨rfl,rfl,rfl,rfl⟩)).mono ?_;intro e w2 hq;obtain⟨v,rfl⟩:=HQ.out _ _ hq)
 exact hq
inductive Tg.Ex':Tg->Ex->Ex->Prop where
 |loc (u n:Nat) (a:Ex):Tg.Ex' (.loc u n) a (.setL u n a)
 |glo (s:Bs) (a:Ex):Tg.Ex' (.glo s) a (.setG s a)
 |def' (s:Bs) (a:Ex):Tg.Ex' (.def' s) a (.defG s a)
theorem qnt{G:Gh}{S:Sub}{m:Mc}{w:World}{sh:List Nat}{t:Tg}{a e:Ex}{xa xs:Value}(i:Inv G S m w)(ht:Tg.Ex' t a e)(ha:CRep G sh a xa)(hs:TRep G sh t xs):Calls prog 321 #[bp G.mb,xa,xs] w (Made G S m w sh e):=by
 obtain⟨k1,c1,rfl,_⟩:=ha.isF;obtain⟨k2,c2,rfl⟩:∃k c,xs=.func (.func k) #[] c:=by cases hs <;> exact⟨_,_,rfl⟩
 refine qrd G.mb k1 k2 c1 c2 w _ Made.ends fun w' hw=>?_
 have i2:=Inv.lk hw (i.alloc2 (.cells #[.func (.func k1) #[] c1] 241) (.cells #[.func (.func k2) #[] c2] 413));have x2:=i.x2 (.cells #[.func (.func k1) #[] c1] 241) (.cells #[.func (.func k2) #[] c2] 413);have h0:((G.add w.heap.size (.cells #[.func (.func k1) #[] c1] 241)).add (w.heap.size+1) (.cells #[.func (.func k2) #[] c2] 413)).I w.heap.size=some (.cells #[.func (.func k1) #[] c1] 241 (0,0)):=by
  rw[qae _ (by omega)];exact Gh.add_at _ _ _
 have key:=qci (sh:=sh) (e:=e) (kc:=355) (cc:=#[bp w.heap.size,bp (w.heap.size+1)]) i2 (by
  cases ht with
  |loc u n=>exact .setL sh u n a w.heap.size (w.heap.size+1) _ _ h0 (Gh.add_at _ _ _) (ha.mono x2.le) (hs.mono x2.le)
  |glo s=>exact .setG sh s a w.heap.size (w.heap.size+1) _ _ h0 (Gh.add_at _ _ _) (ha.mono x2.le) (hs.mono x2.le)
  |def' s=>exact .defG sh s a w.heap.size (w.heap.size+1) _ _ h0 (Gh.add_at _ _ _) (ha.mono x2.le) (hs.mono x2.le))
 exact Calls.mono key fun e w2 h=>h.after ((Mv.ext x2 ((qab _ _).alloc (by simp) _)).lk hw)
theorem qnv(mb k1:Nat)(u i:Int)(c1:Array Value)(w:World)(Q:Ending->World->Prop)(hQ:∀e w,Q e w->∃v,e=.returned v)
  (hK:∀w',Lk (w.alloc (.cells #[.int .i64 u,.int .i64 i] 395)) w'->Calls prog 321 #[.pointer (some ⟨mb,0,none⟩),.func (.func k1) #[] c1,.func (.func 400) #[] #[.pointer (some ⟨w.heap.size,0,none⟩)]] w' Q):
  Calls prog 374 #[.pointer (some ⟨mb,0,none⟩),.agg #[.int .i64 u,.int .i64 i],.func (.func k1) #[] c1] w Q:=by
 have HK:=hZ hK;have HQ:=hZ hQ;clear hK hQ;go_enter func374,ntmps374
 go_wp2_with (go_at_call 321;refine(HK.out _ (by exact⟨rfl,rfl,rfl,rfl⟩)).mono ?_;intro e w2 hq;obtain⟨v,rfl⟩:=HQ.out _ _ hq)
 exact hq
theorem setL_mk{G:Gh}{S:Sub}{m:Mc}{w:World}{sh:List Nat}{u j n:Nat}{a:Ex}{xa:Value}(i:Inv G S m w)(hs:sh[u]? =some n)(hj:j<n)(hb:u<=1000000000/\n<=1000000000)(ha:CRep G sh a xa):Calls prog 374 #[bp G.mb,.agg #[.int .i64 (u:Int),.int .i64 (j:Int)],xa] w (Made G S m w sh (.setL u j a)):=by
 obtain⟨k1,c1,rfl,_⟩:=ha.isF;refine qnv G.mb k1 u j c1 w _ Made.ends fun w' hw=>?_
 have i1:=Inv.lk hw (i.alloc (.cells #[.int .i64 (u:Int),.int .i64 (j:Int)] 395));have x1:=i.x1 (.cells #[.int .i64 (u:Int),.int .i64 (j:Int)] 395);have key:=qnt (sh:=sh) i1 (.loc u j a) (ha.mono x1.le) (.loc sh u j n w.heap.size hs hj hb (Gh.add_at _ _ _));exact Calls.mono key fun e w2 h=>h.after ((Mv.ext x1 (qab _ _)).lk hw)
theorem qs3(mb k1:Nat)(t:ByteArray)(c1:Array Value)(w:World)(Q:Ending->World->Prop)(hQ:∀e w,Q e w->∃v,e=.returned v)
  (hK:∀w',Lk ((w.alloc (.cells #[.pointer (some ⟨mb,0,none⟩)] 107)).alloc (.cells #[.string t] 9)) w'->Calls prog 321 #[.pointer (some ⟨mb,0,none⟩),.func (.func k1) #[] c1,.func (.func 322) #[] #[.pointer (some ⟨w.heap.size,0,none⟩),.pointer (some ⟨w.heap.size+1,0,none⟩)]] w' Q):
  Calls prog 292 #[.pointer (some ⟨mb,0,none⟩),.string t,.func (.func k1) #[] c1] w Q:=by
 have HK:=hZ hK;have HQ:=hZ hQ;clear hK hQ;go_enter func292,ntmps292
 go_wp2_with (go_at_call 321;refine(HK.out _ (by exact⟨rfl,rfl,rfl,rfl⟩)).mono ?_;intro e w2 hq;obtain⟨v,rfl⟩:=HQ.out _ _ hq)
 exact hq
theorem def_mk{G:Gh}{S:Sub}{m:Mc}{w:World}{sh:List Nat}{t:ByteArray}{a:Ex}{xa:Value}(i:Inv G S m w)(ha:CRep G sh a xa):Calls prog 292 #[bp G.mb,.string t,xa] w (Made G S m w sh (.defG t.data.toList a)):=by
 obtain⟨k1,c1,rfl,_⟩:=ha.isF;refine qs3 G.mb k1 t c1 w _ Made.ends fun w' hw=>?_
 have i2:=Inv.lk hw (i.alloc2 (.cells #[bp G.mb] 107) (.cells #[.string t] 9));have x2:=i.x2 (.cells #[bp G.mb] 107) (.cells #[.string t] 9);have key:=qnt (sh:=sh) i2 (.def' t.data.toList a) (ha.mono x2.le) (.def' sh _ w.heap.size (w.heap.size+1) t (by
  show Gh.I _ _=_;rw[qae _ (by omega)];exact Gh.add_at _ _ _) (Gh.add_at _ _ _) rfl)
 exact Calls.mono key fun e w2 h=>h.after ((Mv.ext x2 ((qab _ _).alloc (by simp) _)).lk hw)
theorem qsa(mb k1 k2:Nat)(c1 c2:Array Value)(w:World)(Q:Ending->World->Prop)(hQ:∀e w,Q e w->∃v,e=.returned v)
  (hK:∀w',Lk (((w.alloc (.cells #[.pointer (some ⟨mb,0,none⟩)] 107)).alloc (.cells #[.func (.func k1) #[] c1] 241)).alloc (.cells #[.func (.func k2) #[] c2] 440)) w'->Calls prog 339 #[.pointer (some ⟨mb,0,none⟩),.func (.func 382) #[] #[.pointer (some ⟨w.heap.size,0,none⟩),.pointer (some ⟨w.heap.size+1,0,none⟩),.pointer (some ⟨w.heap.size+2,0,none⟩)]] w' Q):
  Calls prog 357 #[.pointer (some ⟨mb,0,none⟩),.func (.func k1) #[] c1,.func (.func k2) #[] c2] w Q:=by
 have HK:=hZ hK;have HQ:=hZ hQ;clear hK hQ;go_enter func357,ntmps357
 go_wp2_with (go_at_call 339;refine(HK.out _ (by exact⟨rfl,rfl,rfl,rfl⟩)).mono ?_;intro e w2 hq;obtain⟨v,rfl⟩:=HQ.out _ _ hq)
 exact hq
theorem SRep.isFunc{G:Gh}{sh:List Nat}{l:List Ex}{x:Value}(h:SRep G sh l x):∃k c,x=.func (.func k) #[] c:=by
 cases h with
 |one _ e _ h=>obtain⟨k,c,h,_⟩:=h.isF;exact⟨k,c,h⟩
 |cons=>exact⟨_,_,rfl⟩
theorem lam_mk{G:Gh}{S:Sub}{m:Mc}{w:World}{sh:List Nat}{n:Nat}{r:Bool}{l:List Ex}{xl xb:Value}(i:Inv G S m w)(hl:SRep G (n::sh) l xl)(hb:BRep G n r xb):Calls prog 357 #[bp G.mb,xl,xb] w (Made G S m w sh (.lam n r l)):=by
 obtain⟨k1,c1,rfl⟩:=hl.isFunc;obtain⟨k2,c2,rfl⟩:∃k c,xb=.func (.func k) #[] c:=by cases hb <;> exact⟨_,_,rfl⟩
 refine qsa G.mb k1 k2 c1 c2 w _ Made.ends fun w' hw=>?_
 have i3:=Inv.lk hw (i.alloc3 (.cells #[bp G.mb] 107) (.cells #[.func (.func k1) #[] c1] 241) (.cells #[.func (.func k2) #[] c2] 440));have x3:=i.x3 (.cells #[bp G.mb] 107) (.cells #[.func (.func k1) #[] c1] 241) (.cells #[.func (.func k2) #[] c2] 440);have key:=qci (sh:=sh) (e:=.lam n r l) i3 (by
  refine .lam sh n r l w.heap.size (w.heap.size+1) (w.heap.size+2) _ _ ?_ ?_ (Gh.add_at _ _ _) (hl.mono x3.le) (hb.mono x3.le)
  ·show Gh.I _ _=_;rw[qae _ (by omega),qae _ (by omega)];exact Gh.add_at _ _ _
  ·rw[qae _ (by omega)];exact Gh.add_at _ _ _)
 exact Calls.mono key fun e w2 h=>h.after ((Mv.ext x3 (((qab _ _).alloc (by simp) _).alloc (by simp;omega) _)).lk hw)
theorem qsb(mb k1:Nat)(n:Int)(c1:Array Value)(w:World)(Q:Ending->World->Prop)(hQ:∀e w,Q e w->∃v,e=.returned v)
  (hK:∀w',Lk ((w.alloc (.cells #[.pointer (some ⟨mb,0,none⟩)] 107)).alloc (.cells #[.int .i64 n] 3)) w'->Calls prog 357 #[.pointer (some ⟨mb,0,none⟩),.func (.func k1) #[] c1,.func (.func 363) #[] #[.pointer (some ⟨w.heap.size+1,0,none⟩),.pointer (some ⟨w.heap.size,0,none⟩)]] w' Q):
  Calls prog 326 #[.pointer (some ⟨mb,0,none⟩),.int .i64 n,.func (.func k1) #[] c1] w Q:=by
 have HK:=hZ hK;have HQ:=hZ hQ;clear hK hQ;go_enter func326,ntmps326
 go_wp2_with (go_at_call 357;refine(HK.out _ (by exact⟨rfl,rfl,rfl,rfl⟩)).mono ?_;intro e w2 hq;obtain⟨v,rfl⟩:=HQ.out _ _ hq)
 exact hq
theorem qoy{G:Gh}{S:Sub}{m:Mc}{w:World}{sh:List Nat}{n:Nat}{l:List Ex}{xl:Value}(i:Inv G S m w)(hl:SRep G (n::sh) l xl):Calls prog 326 #[bp G.mb,.int .i64 (n:Int),xl] w (Made G S m w sh (.lam n false l)):=by
 obtain⟨k1,c1,rfl⟩:=hl.isFunc;refine qsb G.mb k1 n c1 w _ Made.ends fun w' hw=>?_
 have i2:=Inv.lk hw (i.alloc2 (.cells #[bp G.mb] 107) (.cells #[.int .i64 (n:Int)] 3));have x2:=i.x2 (.cells #[bp G.mb] 107) (.cells #[.int .i64 (n:Int)] 3);have key:=lam_mk (sh:=sh) i2 (hl.mono x2.le) (.num n (w.heap.size+1) w.heap.size (Gh.add_at _ _ _) (by
  show Gh.I _ _=_;rw[qae _ (by omega)];exact Gh.add_at _ _ _))
 exact Calls.mono key fun e w2 h=>h.after ((Mv.ext x2 ((qab _ _).alloc (by simp) _)).lk hw)
theorem qsc(mb k1:Nat)(c1:Array Value)(w:World)(Q:Ending->World->Prop)(hQ:∀e w,Q e w->∃v,e=.returned v)
  (hK:∀w',Lk (w.alloc (.cells #[.pointer (some ⟨mb,0,none⟩)] 107)) w'->Calls prog 357 #[.pointer (some ⟨mb,0,none⟩),.func (.func k1) #[] c1,.func (.func 358) #[] #[.pointer (some ⟨w.heap.size,0,none⟩)]] w' Q):
  Calls prog 323 #[.pointer (some ⟨mb,0,none⟩),.func (.func k1) #[] c1] w Q:=by
 have HK:=hZ hK;have HQ:=hZ hQ;clear hK hQ;go_enter func323,ntmps323
 go_wp2_with (go_at_call 357;refine(HK.out _ (by exact⟨rfl,rfl,rfl,rfl⟩)).mono ?_;intro e w2 hq;obtain⟨v,rfl⟩:=HQ.out _ _ hq)
 exact hq
theorem qma{G:Gh}{S:Sub}{m:Mc}{w:World}{sh:List Nat}{l:List Ex}{xl:Value}(i:Inv G S m w)(hl:SRep G (1::sh) l xl):Calls prog 323 #[bp G.mb,xl] w (Made G S m w sh (.lam 1 true l)):=by
 obtain⟨k1,c1,rfl⟩:=hl.isFunc;refine qsc G.mb k1 c1 w _ Made.ends fun w' hw=>?_
 have i1:=Inv.lk hw (i.alloc (.cells #[bp G.mb] 107));have x1:=i.x1 (.cells #[bp G.mb] 107);have key:=lam_mk (sh:=sh) i1 (hl.mono x1.le) (.rest w.heap.size (Gh.add_at _ _ _));exact Calls.mono key fun e w2 h=>h.after ((Mv.ext x1 (qab _ _)).lk hw)
end
section
open Sc
theorem qht(G:Gh)(S:Sub)(m:Mc)(w:World)(t:ByteArray)(i:Inv G S m w):
  Calls prog 227 #[bp G.mb,.string t] w fun e w'=>∃H b,e=.returned (bp b)/\Mv G w H w'/\Inv H S m w'/\(t.data.toList,b)∈H.B:=by
 obtain⟨es,clock,hmp,hB⟩:=i.mp;have c2:=i.mb2;have hl:=qdl G.mp es clock G.B t w hmp hB;cases hb:lookB t.data.toList G.B with
 |some b=>
  rw[hb]at hl;have hl:(Instr.lookup 114 (.map (some G.mp)) (.string t) false).run prog w=.ok (.pointer (some ⟨b,0,none⟩)) w:=hl;have HI:=hZ i;have HB:=hZ (qep hb);clear i hmp hB hb;go_enter func227,ntmps227
  go_wp2;go_ret;exact⟨G,b,rfl,Mv.refl G w,HI.out,HB.out⟩
 |none=>
  rw[hb]at hl;have hl:(Instr.lookup 114 (.map (some G.mp)) (.string t) false).run prog w=.ok (.pointer none) w:=hl;have hmpl:G.mp<w.heap.size:=(Array.getElem?_eq_some_iff.1 hmp).1;have hu:=qcb G.mp w.heap.size es clock G.B t (w.alloc (.cells #[.nilIface] 318)) (by rw[Below.heap_alloc _ _ _ hmpl];exact hmp) hB hb;have k2:(w.alloc (.cells #[.nilIface] 318)).cell? ⟨G.mb,2,none⟩=some (.map (some G.mp)):=(qad (qac c2) _).trans c2;have HI:=hZ i;have HB:=hZ hB;have HN:=hZ (qcr hb);have HM:=hZ hmp;clear i hB hb hmp;go_enter func227,ntmps227
  go_wp2;go_ret;have i1:=HI.out.below ((Below.refl _ _).alloc (Nat.le_refl _) (.cells #[.nilIface] 318));refine⟨G.glob t.data.toList w.heap.size,w.heap.size,rfl,⟨G.up_glob _ _,fun _=>rfl,fun {b} hb=>?_,fun {c} hcl hc=>?_,by simp⟩,i1.newGlob HN.out (heap_alloc_new _ _) (fun h=>by have:=HI.out.ml h;omega) (HI.out.fresh (Nat.le_refl _)) (fun h=>by have:=(HI.out.ff h).2;omega) ?_ (by simp) ⟨rfl,rfl,rfl⟩ ⟨es.push ⟨.string t,bp w.heap.size,clock⟩,clock+1,?_,?_⟩,?_⟩
  ·simp only[Gh.mut,Gh.glob,Gh.rows,List.mem_cons,List.mem_append,List.map_append,List.map_cons,List.map_nil,List.not_mem_nil,or_false]at hb|-;rcases hb with h|h|h|h|(h|h)|h
   ·exact .inl (.inl h)
   ·exact .inl (.inr (.inl h))
   ·exact .inl (.inr (.inr (.inl h)))
   ·exact .inl (.inr (.inr (.inr (.inl h))))
   ·exact .inl (.inr (.inr (.inr (.inr (.inl h)))))
   ·exact .inr (by omega)
   ·exact .inl (.inr (.inr (.inr (.inr (.inr h)))))
  ·have hcm:c≠G.mp:=fun e=>hc (e▸HI.out.m4)
   simp[Ne.symm hcm,Below.heap_alloc _ _ _ hcl]
  ·intro c hc;simp[Ne.symm hc]
  ·simp[Array.getElem?_setIfInBounds];omega
  ·simp[HB.out]
  ·exact List.mem_append_right _ (by simp)
theorem qsl(mb:Nat)(t:ByteArray)(w:World)(Q:Ending->World->Prop)(hQ:∀e w,Q e w->∃v,e=.returned v)
  (hG:Calls prog 227 #[.pointer (some ⟨mb,0,none⟩),.string t] w fun e w1=>∃b,e=.returned (.pointer (some ⟨b,0,none⟩))/\∀w',Lk (w1.alloc (.cells #[.pointer (some ⟨b,0,none⟩)] 319)) w'->Calls prog 339 #[.pointer (some ⟨mb,0,none⟩),.func (.func 368) #[] #[.pointer (some ⟨w1.heap.size,0,none⟩)]] w' Q):
  Calls prog 332 #[.pointer (some ⟨mb,0,none⟩),.string t] w Q:=by
 have HG:=hZ hG;have HQ:=hZ hQ;clear hG hQ;go_enter func332,ntmps332
 go_wp2_with (go_at_call 227;refine HG.out.mono ?_;rintro e w1 ⟨b,rfl,hk⟩;have HK:=hZ hk;clear hk;refine Hid.out ?_)
 refine hZ ?_;go_wp2_with (go_at_call 339;refine(HK.out _ (by exact⟨rfl,rfl,rfl,rfl⟩)).mono ?_;intro e w2 hq;obtain⟨v,rfl⟩:=HQ.out _ _ hq)
 exact hq
theorem glo_mk{G:Gh}{S:Sub}{m:Mc}{w:World}{sh:List Nat}{t:ByteArray}(i:Inv G S m w):Calls prog 332 #[bp G.mb,.string t] w (Made G S m w sh (.glo t.data.toList)):=by
 refine qsl G.mb t w _ Made.ends ?_;refine Calls.mono (qht G S m w t i) ?_;rintro e w1 ⟨H,b,rfl,hm,hi,hb⟩;refine⟨b,rfl,fun w' hw=>?_⟩;have i1:=Inv.lk hw (hi.alloc (.cells #[bp b] 319));have x1:=hi.x1 (.cells #[bp b] 319);have key:=qci (sh:=sh) (e:=.glo t.data.toList) i1 (.glo sh _ w1.heap.size b (Gh.add_at _ _ _) (x1.le.B hb));have hmb:H.mb=G.mb:=hm.up.le.mb;have e1:(H.add w1.heap.size (.cells #[bp b] 319)).mb=G.mb:=hmb;rw[e1]at key;exact Calls.mono key fun e w2 h=>h.after (hm.trans ((Mv.ext x1 (qab _ _)).lk hw))
theorem qnw(mb k1:Nat)(c1:Array Value)(t:ByteArray)(w:World)(Q:Ending->World->Prop)(hQ:∀e w,Q e w->∃v,e=.returned v)
  (hG:Calls prog 227 #[.pointer (some ⟨mb,0,none⟩),.string t] w fun e w1=>∃b,e=.returned (.pointer (some ⟨b,0,none⟩))/\∀w',Lk (w1.alloc (.cells #[.pointer (some ⟨b,0,none⟩)] 319)) w'->Calls prog 321 #[.pointer (some ⟨mb,0,none⟩),.func (.func k1) #[] c1,.func (.func 401) #[] #[.pointer (some ⟨w1.heap.size,0,none⟩)]] w' Q):
  Calls prog 375 #[.pointer (some ⟨mb,0,none⟩),.string t,.func (.func k1) #[] c1] w Q:=by
 have HG:=hZ hG;have HQ:=hZ hQ;clear hG hQ;go_enter func375,ntmps375
 go_wp2_with (go_at_call 227;refine HG.out.mono ?_;rintro e w1 ⟨b,rfl,hk⟩;have HK:=hZ hk;clear hk;refine Hid.out ?_)
 refine hZ ?_;go_wp2_with (go_at_call 321;refine(HK.out _ (by exact⟨rfl,rfl,rfl,rfl⟩)).mono ?_;intro e w2 hq;obtain⟨v,rfl⟩:=HQ.out _ _ hq)
 exact hq
theorem setG_mk{G:Gh}{S:Sub}{m:Mc}{w:World}{sh:List Nat}{t:ByteArray}{a:Ex}{xa:Value}(i:Inv G S m w)(ha:CRep G sh a xa):Calls prog 375 #[bp G.mb,.string t,xa] w (Made G S m w sh (.setG t.data.toList a)):=by
 obtain⟨k1,c1,rfl,_⟩:=ha.isF;refine qnw G.mb k1 c1 t w _ Made.ends ?_;refine Calls.mono (qht G S m w t i) ?_;rintro e w1 ⟨H,b,rfl,hm,hi,hb⟩;refine⟨b,rfl,fun w' hw=>?_⟩;have i1:=Inv.lk hw (hi.alloc (.cells #[bp b] 319));have x1:=hi.x1 (.cells #[bp b] 319);have key:=qnt (sh:=sh) i1 (.glo t.data.toList a) ((ha.mono hm.up.le).mono x1.le) (.glo sh _ w1.heap.size b (Gh.add_at _ _ _) (x1.le.B hb));have hmb:H.mb=G.mb:=hm.up.le.mb;have e1:(H.add w1.heap.size (.cells #[bp b] 319)).mb=G.mb:=hmb;rw[e1]at key;exact Calls.mono key fun e w2 h=>h.after (hm.trans ((Mv.ext x1 (qab _ _)).lk hw))
theorem qm5(mb:Nat)(sa:Option Addr)(sn sc:Nat)(w:World)(Q:Ending->World->Prop)(hQ:∀e w,Q e w->∃v,e=.returned v)
  (hS:∀w',Lk w w'->Calls prog 361 #[.slice sa sn sc] w' fun e w1=>∃kc cc,e=.returned (.func (.func kc) #[] cc)/\∀w2,Lk w1 w2->Calls prog 339 #[.pointer (some ⟨mb,0,none⟩),.func (.func kc) #[] cc] w2 Q):
  Calls prog 338 #[.pointer (some ⟨mb,0,none⟩),.slice sa sn sc] w Q:=by
 have HS:=hZ hS;have HQ:=hZ hQ;clear hS hQ;go_enter func338,ntmps338
 go_wp2_with (go_at_call 361;refine(HS.out _ (by exact⟨rfl,rfl,rfl,rfl⟩)).mono ?_;rintro e w1 ⟨kc,cc,rfl,hk⟩;have HK:=hZ hk;clear hk;refine Hid.out ?_)
 refine hZ ?_;go_wp2_with (go_at_call 339;refine(HK.out _ (by exact⟨rfl,rfl,rfl,rfl⟩)).mono ?_;intro e w2 hq;obtain⟨v,rfl⟩:=HQ.out _ _ hq)
 exact hq
end
section
open Sc
theorem qlk(g o cap k:Nat)(c:Array Value)(w:World)(h0:w.cell? ⟨g,o,none⟩=some (.func (.func k) #[] c)):
  Calls prog 361 #[.slice (some ⟨g,o,none⟩) 1 cap] w fun e w'=>e=.returned (.func (.func k) #[] c)/\Lk w w':=by
 go_enter func361,ntmps361
 go_wp2;go_ret;exact⟨rfl,rfl,rfl,rfl,rfl⟩
theorem qaj{w:World}{b k:Nat}{x:Value}{o:Obj}(h:w.cell? ⟨b,k,none⟩=some x):(w.alloc o).cell? ⟨b,k,none⟩=some x:=(qad (qac h) _).trans h
theorem qap{w:World}{p a:Addr}{x v:Value}(h:w.cell? p=some x)(hn:p.block≠a.block):(w.setCell a v).cell? p=some x:=(qag hn).trans h
theorem bl0{w w':World}(h:Lk w w'):Below w.heap.size w w':=⟨h.os,h.tape,h.output,by rw[h.heap];exact Nat.le_refl _,fun k _=>by rw[h.heap]⟩
theorem bl1{w w':World}{o:Obj}(h:Lk (w.alloc o) w'):Below w.heap.size w w':=(qab w o).trans ((bl0 h).mono (by simp))
theorem bl2{w w':World}{o o2:Obj}(h:Lk ((w.alloc o).alloc o2) w'):Below w.heap.size w w':=((qab w o).alloc (by simp) o2).trans ((bl0 h).mono (by simp;omega))
def SeqT(x y:Value)(w w' w1:World)(Q:Ending->World->Prop):Prop:=∀b3 b4 w3,b3≠b4->w.heap.size<=b3->w.heap.size<=b4->(b3<w'.heap.size\/w1.heap.size<=b3)->(b4<w'.heap.size\/w1.heap.size<=b4)->(∀j,j<w1.heap.size->j≠b3->j≠b4->w3.heap[j]? =w1.heap[j]?)->w3.heap[b3]? =some (.cells #[x] 241 (0,0))->w3.heap[b4]? =some (.cells #[y] 241 (0,0))->w1.heap.size<=w3.heap.size->w3.os=w1.os->w3.tape=w1.tape->w3.output=w1.output->Q (.returned (.func (.func 384) #[] #[.pointer (some ⟨b3,0,none⟩),.pointer (some ⟨b4,0,none⟩)])) w3
def SeqR(g o k:Nat)(c:Array Value)(w:World)(Q:Ending->World->Prop)(w':World)(e:Ending)(w1:World):Prop:=∃k2 c2,e=.returned (.func (.func k2) #[] c2)/\w1.cell? ⟨g,o,none⟩=some (.func (.func k) #[] c)/\Below w'.heap.size w' w1/\w.heap.size<=w'.heap.size/\SeqT (.func (.func k) #[] c) (.func (.func k2) #[] c2) w w' w1 Q
theorem SeqR.below{g o k:Nat}{c:Array Value}{w:World}{Q:Ending->World->Prop}{w':World}{e:Ending}{w1:World}(h:SeqR g o k c w Q w' e w1):Below w'.heap.size w' w1:=by obtain⟨_,_,_,_,h,_⟩:=h;exact h
section
variable {x y:Value} {w w' w1:World} {Q:Ending->World->Prop}
theorem SeqT.aa(t:SeqT x y w w' w1 Q)(hz:w.heap.size<=w1.heap.size):Q (.returned (.func (.func 384) #[] #[.pointer (some ⟨w1.heap.size,0,none⟩),.pointer (some ⟨w1.heap.size+1,0,none⟩)])) ((w1.alloc (.cells #[x] 241)).alloc (.cells #[y] 241)):=by
 refine t _ _ _ (by omega) hz (by omega) (.inr (Nat.le_refl _)) (.inr (by omega)) (fun j hj _ _=>?_) ?_ ?_ (by simp;omega) rfl rfl rfl
 ·rw[Below.heap_alloc _ _ _ (by simp;omega),Below.heap_alloc _ _ _ hj]
 ·rw[Below.heap_alloc _ _ _ (by simp)];exact heap_alloc_new _ _
 ·have:=heap_alloc_new (w1.alloc (.cells #[x] 241)) (.cells #[y] 241);simpa using this
theorem SeqT.aa'(t:SeqT x y w w' w1 Q)(hz:w.heap.size<=w1.heap.size):Q (.returned (.func (.func 384) #[] #[.pointer (some ⟨w1.heap.size+1,0,none⟩),.pointer (some ⟨w1.heap.size,0,none⟩)])) ((w1.alloc (.cells #[y] 241)).alloc (.cells #[x] 241)):=by
 refine t _ _ _ (by omega) (by omega) hz (.inr (by omega)) (.inr (Nat.le_refl _)) (fun j hj _ _=>?_) ?_ ?_ (by simp;omega) rfl rfl rfl
 ·rw[Below.heap_alloc _ _ _ (by simp;omega),Below.heap_alloc _ _ _ hj]
 ·have:=heap_alloc_new (w1.alloc (.cells #[y] 241)) (.cells #[x] 241);simpa using this
 ·rw[Below.heap_alloc _ _ _ (by simp)];exact heap_alloc_new _ _
theorem SeqT.sa(t:SeqT x y w w' w1 Q){b:Nat}(h1:w.heap.size<=b)(h2:b<w'.heap.size)(h3:b<w1.heap.size)(hb:w1.heap[b]? =some (.cells #[.nilFunc] 241 (0,0))):Q (.returned (.func (.func 384) #[] #[.pointer (some ⟨b,0,none⟩),.pointer (some ⟨w1.heap.size,0,none⟩)])) ((w1.setCell ⟨b,0,none⟩ x).alloc (.cells #[y] 241)):=by
 refine t _ _ _ (by omega) h1 (by omega) (.inl h2) (.inr (Nat.le_refl _)) (fun j hj hj3 _=>?_) ?_ ?_ (by simp) rfl rfl rfl
 ·rw[Below.heap_alloc _ _ _ (by simpa using hj),qaa (a:=⟨b,0,none⟩) j hj3]
 ·rw[Below.heap_alloc _ _ _ (by simpa using h3)];exact qbc hb
 ·have:=heap_alloc_new (w1.setCell ⟨b,0,none⟩ x) (.cells #[y] 241);simpa using this
theorem SeqT.as(t:SeqT x y w w' w1 Q){b:Nat}(h1:w.heap.size<=b)(h2:b<w'.heap.size)(h3:b<w1.heap.size)(hb:w1.heap[b]? =some (.cells #[.nilFunc] 241 (0,0))):Q (.returned (.func (.func 384) #[] #[.pointer (some ⟨w1.heap.size,0,none⟩),.pointer (some ⟨b,0,none⟩)])) ((w1.setCell ⟨b,0,none⟩ y).alloc (.cells #[x] 241)):=by
 refine t _ _ _ (by omega) (by omega) h1 (.inr (Nat.le_refl _)) (.inl h2) (fun j hj _ hj4=>?_) ?_ ?_ (by simp) rfl rfl rfl
 ·rw[Below.heap_alloc _ _ _ (by simpa using hj),qaa (a:=⟨b,0,none⟩) j hj4]
 ·have:=heap_alloc_new (w1.setCell ⟨b,0,none⟩ y) (.cells #[x] 241);simpa using this
 ·rw[Below.heap_alloc _ _ _ (by simpa using h3)];exact qbc hb
theorem SeqT.ss(t:SeqT x y w w' w1 Q){b d:Nat}(hbd:b≠d)(h1:w.heap.size<=b)(h1':w.heap.size<=d)(h2:b<w'.heap.size)(h2':d<w'.heap.size)(hb:w1.heap[b]? =some (.cells #[.nilFunc] 241 (0,0)))(hd:w1.heap[d]? =some (.cells #[.nilFunc] 241 (0,0))):Q (.returned (.func (.func 384) #[] #[.pointer (some ⟨b,0,none⟩),.pointer (some ⟨d,0,none⟩)])) ((w1.setCell ⟨b,0,none⟩ x).setCell ⟨d,0,none⟩ y):=by
 refine t _ _ _ hbd h1 h1' (.inl h2) (.inl h2') (fun j hj hj3 hj4=>?_) ?_ ?_ (by simp) rfl rfl rfl
 ·rw[qaa (a:=⟨d,0,none⟩) j hj4,qaa (a:=⟨b,0,none⟩) j hj3]
 ·rw[qaa (a:=⟨d,0,none⟩) b hbd];exact qbc hb
 ·exact qbc (by rw[qaa (a:=⟨b,0,none⟩) d (Ne.symm hbd)];exact hd)
end
theorem qio(g o n cap k:Nat)(c:Array Value)(w:World)(Q:Ending->World->Prop)(h0:w.cell? ⟨g,o,none⟩=some (.func (.func k) #[] c))(hc:n+2<=cap)(hn:n+2<=1000000)
  (hS:∀w',Below w.heap.size w w'->Calls prog 361 #[.slice (tl1 g o cap) (n+1) (cap-1)] w' (SeqR g o k c w Q w')):
  Calls prog 361 #[.slice (some ⟨g,o,none⟩) (n+2) cap] w Q:=by
 have hsl:∀w,(Instr.slice 426 (.slice (some ⟨g,o,none⟩) (n+2) cap) (some (.int .i64 1)) none none).run prog w=.ok (.slice (tl1 g o cap) (n+1) (cap-1)) w:=fun w=>qj7 g o (n+1) cap hc w
 have HS:=hZ hS;have l0:=qac h0;clear hS;have hne:¬((n:Int)+2=1):=by omega
 have hlt:(0:Int)<(n:Int)+2:=by omega
 have h3:∀{w' w1:World} {b:Nat},w'.heap[b]? =some (.cells #[.nilFunc] 241 (0,0))->Below w'.heap.size w' w1->w1.cell? ⟨b,0,none⟩=some .nilFunc/\w1.frozen? ⟨b,0,none⟩=false/\b<w1.heap.size/\w1.heap[b]? =some (.cells #[.nilFunc] 241 (0,0))/\b<w'.heap.size:=fun {w' w1 b} hb hB=>by
  have hl:=(Array.getElem?_eq_some_iff.1 hb).1;have:=(hB.block b hl).trans hb;exact⟨by simp[World.cell?,this],by simp[World.frozen?,this],Nat.lt_of_lt_of_le hl hB.size,this,hl⟩
 have HS1:Hid (∀w',Lk (w.alloc (.cells #[.nilFunc] 241)) w'->Calls prog 361 #[.slice (tl1 g o cap) (n+1) (cap-1)] w' fun e w1=>(w1.cell? ⟨w.heap.size,0,none⟩=some .nilFunc/\w1.frozen? ⟨w.heap.size,0,none⟩=false/\w.heap.size<w1.heap.size/\w1.heap[w.heap.size]? =some (.cells #[.nilFunc] 241 (0,0))/\w.heap.size<w'.heap.size)/\SeqR g o k c w Q w' e w1):=fun w' hw=>Calls.mono (HS.out w' (bl1 hw)) fun e w1 h=>⟨h3 (by rw[hw.heap];exact heap_alloc_new _ _) h.below,h⟩
 have HS2:Hid (∀w',Lk ((w.alloc (.cells #[.nilFunc] 241)).alloc (.cells #[.nilFunc] 241)) w'->Calls prog 361 #[.slice (tl1 g o cap) (n+1) (cap-1)] w' fun e w1=>(w1.cell? ⟨w.heap.size,0,none⟩=some .nilFunc/\w1.frozen? ⟨w.heap.size,0,none⟩=false/\w.heap.size<w1.heap.size/\w1.heap[w.heap.size]? =some (.cells #[.nilFunc] 241 (0,0))/\w.heap.size<w'.heap.size)/\(w1.cell? ⟨w.heap.size+1,0,none⟩=some .nilFunc/\w1.frozen? ⟨w.heap.size+1,0,none⟩=false/\w.heap.size+1<w1.heap.size/\w1.heap[w.heap.size+1]? =some (.cells #[.nilFunc] 241 (0,0))/\w.heap.size+1<w'.heap.size)/\SeqR g o k c w Q w' e w1):=fun w' hw=>Calls.mono (HS.out w' (bl2 hw)) fun e w1 h=>⟨h3 (by rw[hw.heap,Below.heap_alloc _ _ _ (by simp)];exact heap_alloc_new _ _) h.below,h3 (by rw[hw.heap];have:=heap_alloc_new (w.alloc (.cells #[.nilFunc] 241)) (.cells #[.nilFunc] 241);simpa using this) h.below,h⟩
 clear h3;go_enter func361,ntmps361
 go_wp2_with (fail)
 go_region_held3 (fun w'=>w'.cell? ⟨g,o,none⟩=some (.func (.func k) #[] c)) (first|(exact HC1.out.1)|(exact h0)|(exact qaj h0)|(exact qaj (qaj h0))|(exact qaj HC1.out.1)|(exact qaj (qaj HC1.out.1))|(exact qap HC1.out.1 (by simp;omega))|(exact qap (qap HC1.out.1 (by simp;omega)) (by simp;omega))|(exact qap (qaj HC1.out.1) (by simp;omega))|(exact qaj (qap HC1.out.1 (by simp;omega)))|(exact qap (qap (qaj HC1.out.1) (by simp;omega)) (by simp;omega))|(exact qap (qaj (qap HC1.out.1 (by simp;omega))) (by simp;omega))|go_keep|(trace_state;fail))
  (first
   |(go_at_call 361;refine(HS.out _ (bl0 (by exact⟨rfl,rfl,rfl,rfl⟩))).mono ?_;rintro e w1 ⟨k2,c2,rfl,hc⟩;have l1:=qac hc.1;have HC1:=hZ hc;clear hc)
   |(go_at_call 361;refine(HS1.out _ (by exact⟨rfl,rfl,rfl,rfl⟩)).mono ?_;rintro e w1 ⟨⟨d3,f3,z3,e3,y3⟩,k2,c2,rfl,hc⟩;have E3:=hZ (And.intro e3 y3);clear e3 y3;have l1:=qac hc.1;have HC1:=hZ hc;clear hc)
   |(go_at_call 361;refine(HS2.out _ (by exact⟨rfl,rfl,rfl,rfl⟩)).mono ?_;rintro e w1 ⟨⟨d3,f3,z3,e3,y3⟩,⟨d4,f4,z4,e4,y4⟩,k2,c2,rfl,hc⟩;have E3:=hZ (And.intro e3 y3);have E4:=hZ (And.intro e4 y4);clear e3 y3 e4 y4;have l1:=qac hc.1;have HC1:=hZ hc;clear hc))
 all_goals(try go_wp2)
 all_goals try go_ret
 all_goals have hz:w.heap.size<=w1.heap.size:=Nat.le_trans HC1.out.2.2.1 HC1.out.2.1.size
 all_goals first
  |exact HC1.out.2.2.2.aa hz
  |exact HC1.out.2.2.2.aa' hz
  |exact HC1.out.2.2.2.sa (Nat.le_refl _) E3.out.2 z3 E3.out.1
  |exact HC1.out.2.2.2.as (Nat.le_refl _) E3.out.2 z3 E3.out.1
  |exact HC1.out.2.2.2.ss (by omega) (Nat.le_refl _) (by omega) E3.out.2 E4.out.2 E3.out.1 E4.out.1
  |exact HC1.out.2.2.2.ss (by omega) (by omega) (Nat.le_refl _) E4.out.2 E3.out.2 E4.out.1 E3.out.1
end
section
open Sc
theorem Inv.turns{G:Gh}{S:Sub}{m:Mc}{w w':World}(i:Inv G S m w)(hk:∀j,j<w.heap.size->¬(G.I j=Option.none/\j∉G.mut/\¬G.F j)->w'.heap[j]? =w.heap[j]?)(hs:w.heap.size<=w'.heap.size)(ho:w'.os=w.os/\w'.tape=w.tape/\w'.output=w.output):Inv G S m w':=by
 have k:∀c,c<w.heap.size->(G.I c≠Option.none\/c∈G.mut\/G.F c)->w'.heap[c]? =w.heap[c]?:=fun c hc h=>hk c hc fun⟨h1,h2,h3⟩=>by
  rcases h with h|h|h
  ·exact h h1
  ·exact h2 h
  ·exact h3 h
 have km:∀{c:Nat},c∈G.mut->w'.heap[c]? =w.heap[c]?:=fun {c} hc=>k c (i.ml hc) (.inr (.inl hc))
 refine⟨fun {c x} hc=>by rw[k c (i.lt hc) (.inl (by rw[hc];exact nofun))];exact i.imm hc,i.nd,i.mi,fun h=>Nat.lt_of_lt_of_le (i.ml h) hs,i.st.keep (km i.m2),i.ce.keep (km i.m3),i.sl,i.cl,by rw[km i.m1];exact i.ma,by rw[km i.m4];exact i.mp,fun {s c} h=>by rw[km (i.m5 h)];exact i.gl h,i.gd,i.gk,?_,i.el,i.jl,i.jn,i.ji,⟨ho.1.trans i.fo.1,ho.2.1.trans i.fo.2.1,ho.2.2.trans i.fo.2.2⟩,fun {b} h=>⟨by rw[k b (i.ff h).2 (.inr (.inr h))];exact(i.ff h).1,Nat.lt_of_lt_of_le (i.ff h).2 hs⟩,i.fm,i.fi⟩;intro j vs e hj;obtain⟨fb,sv,pf,h1,h2,h3,h4⟩:=i.en hj;exact⟨fb,sv,pf,h1,h2,h3,h4.mono (Gh.le.refl _) fun g o n cap hsv=>km (i.m6 (by rw[h1,hsv]))⟩
def SMade(G:Gh)(S:Sub)(m:Mc)(w:World)(sh:List Nat)(l:List Ex)(e':Ending)(w':World):Prop:=∃H x,e'=.returned x/\G.ext H w.heap.size/\Below w.heap.size w w'/\Inv H S m w'/\SRep H sh l x
theorem qin{S:Sub}{m:Mc}{sh:List Nat}:∀(l:List Ex) (e:Ex) (G:Gh) (w:World) (x:Value) (xs:List Value) (g o cap:Nat) (arr:Array Value),Inv G S m w->XRep G sh (e::l) (x::xs)->G.I g=some (.cells arr 241 (0,0))->xs.length+1<=cap->xs.length+1<=1000000->(∀i y,(x::xs)[i]? =some y->arr[o+i]? =some y)->
  Calls prog 361 #[.slice (some ⟨g,o,none⟩) (xs.length+1) cap] w (SMade G S m w sh (e::l))
 | [],e,G,w,x,xs,g,o,cap,arr,i,hx,hg,hc,hm,hr=>by
  cases hx with
  |cons _ _ _ _ _ h hs=>
   cases hs;obtain⟨k,c,rfl,_⟩:=h.isF;have c0:w.cell? ⟨g,o,none⟩=some (.func (.func k) #[] c):=by rw[i.cell hg];simpa using hr 0 _ rfl
   refine Calls.mono (qlk g o cap k c w c0) ?_;rintro e' w' ⟨rfl,hw⟩;exact⟨G,_,rfl,Gh.ext.refl _ _,bl0 hw,Inv.lk hw i,.one sh e _ h⟩
 |a::r,e,G,w,x,xs,g,o,cap,arr,i,hx,hg,hc,hm,hr=>by
  cases hx with
  |cons _ _ _ _ _ h hs=>
   cases xs with
   |nil=>cases hs
   |cons y ys=>
    obtain⟨k,c,rfl,_⟩:=h.isF;have c0:w.cell? ⟨g,o,none⟩=some (.func (.func k) #[] c):=by rw[i.cell hg];simpa using hr 0 _ rfl
    have hc':ys.length+2<=cap:=by simpa using hc
    have hm':ys.length+2<=1000000:=by simpa using hm
    have htl:tl1 g o cap=some ⟨g,o+1,none⟩:=if_neg (by omega);have key:=qio g o ys.length cap k c w (SMade G S m w sh (e::a::r)) c0 hc' hm' (fun w' hb=>by
     have i':=i.below hb;rw[htl];refine Calls.mono (qin r a G w' y ys g (o+1) (cap-1) arr i' hs hg (by omega) (by omega) (fun j z hz=>by have:=hr (j+1) z (by simpa using hz);rw[<-this];congr 1;omega)) ?_;rintro e' w1 ⟨H,z,rfl,hx1,hb1,i1,hz⟩;obtain⟨k2,c2,rfl⟩:=hz.isFunc;refine⟨k2,c2,rfl,by rw[i1.cell (hx1.le.I hg)];simpa using hr 0 _ rfl,hb1,hb.size,?_⟩;intro b3 b4 w3 hne hz3 hz4 hq3 hq4 hk h3 h4 hs3 ho1 ho2 ho3;have lo:∀b,w.heap.size<=b->(b<w'.heap.size\/w1.heap.size<=b)->H.I b=none/\b∉H.mut/\¬H.F b:=fun b hb0 hq=>by
      rcases hq with hq|hq
      ·exact⟨by rw[hx1.I hq];exact i.fresh hb0,by rw[hx1.mut];exact fun hm=>by have:=i.ml hm;omega,by rw[hx1.F];exact fun hf=>by have:=(i.ff hf).2;omega⟩
      ·exact(i1.looses) b hq
     obtain⟨l3a,l3b,l3c⟩:=lo b3 hz3 hq3;obtain⟨l4a,l4b,l4c⟩:=lo b4 hz4 hq4;have i3:Inv H S m w3:=i1.turns (fun j hj hjn=>hk j hj (fun e=>hjn (e▸⟨l3a,l3b,l3c⟩)) (fun e=>hjn (e▸⟨l4a,l4b,l4c⟩))) hs3 ⟨ho1,ho2,ho3⟩;have i4:=i3.fix ⟨l3b,l3c⟩ l3a h3;have i5:=i4.fix (g:=b4) ⟨by exact l4b,by exact l4c⟩ (by rw[qae _ (Ne.symm hne)];exact l4a) h4;have e3:Gh.ext G ((H.add b3 (.cells #[.func (.func k) #[] c] 241)).add b4 (.cells #[.func (.func k2) #[] c2] 241)) w.heap.size:=
      ⟨(hx1.le.trans (Gh.le_add l3a)).trans (Gh.le_add (by rw[qae _ (Ne.symm hne)];exact l4a)),hx1.E,hx1.B,fun {b} hb'=>by
       rw[qae _ (by omega),qae _ (by omega)];exact hx1.I (Nat.lt_of_lt_of_le hb' hb.size),hx1.W,hx1.F⟩
     have hle:H.le ((H.add b3 (.cells #[.func (.func k) #[] c] 241)).add b4 (.cells #[.func (.func k2) #[] c2] 241)):=(Gh.le_add l3a).trans (Gh.le_add (by rw[qae _ (Ne.symm hne)];exact l4a));refine⟨_,_,rfl,e3,⟨ho1.trans (hb1.os.trans hb.os),ho2.trans (hb1.tape.trans hb.tape),ho3.trans (hb1.output.trans hb.output),Nat.le_trans (Nat.le_trans hb.size hb1.size) hs3,fun j hj=>?_⟩,i5,.cons sh e a r b3 b4 _ _ (by rw[qae _ hne];exact Gh.add_at _ _ _) (Gh.add_at _ _ _) ((h.mono hx1.le).mono hle) (hz.mono hle)⟩;rw[hk j (Nat.lt_of_lt_of_le hj (Nat.le_trans hb.size hb1.size)) (by omega) (by omega),hb1.block j (Nat.lt_of_lt_of_le hj hb.size),hb.block j hj])
    simpa using key
theorem qtc{G:Gh}{S:Sub}{m:Mc}{w:World}{sh:List Nat}{e:Ex}{l:List Ex}{sa:Option Addr}{sn sc:Nat}{x:Value}{xs:List Value}(i:Inv G S m w)(hr:RowI G 241 (.slice sa sn sc) (x::xs))(hx:XRep G sh (e::l) (x::xs)):Calls prog 338 #[bp G.mb,.slice sa sn sc] w (Made G S m w sh (.seq e l)):=by
 obtain⟨g,o,cap,arr,e1,hg,hc,hm,hz⟩:=hr;cases e1;refine qm5 G.mb _ _ _ w _ Made.ends fun w' hw=>?_
 have i':=Inv.lk hw i;refine Calls.mono (qin l e G w' x xs g o sc arr i' hx hg (by simpa using hc) (by simpa using hm) hz) ?_;rintro e' w1 ⟨H,y,rfl,hx1,hb1,i1,hy⟩;obtain⟨kc,cc,rfl⟩:=hy.isFunc;refine⟨kc,cc,rfl,fun w2 hw2=>?_⟩;have key:=qci (sh:=sh) (e:=.seq e l) (Inv.lk hw2 i1) (.seq sh e l _ hy);have hmb:H.mb=G.mb:=hx1.le.mb;rw[hmb]at key;exact Calls.mono key fun e w3 h=>h.after ((Mv.lkl hw (Mv.ext hx1 hb1)).lk hw2)
def CntSaid(N:Nat):Prop:=∀(G:Gh) (S:Sub) (m:Mc) (w:World) (d:Dt) (e:Dl),SizeOf.sizeOf d<N->Inv G S m w->DRep G d e->members d<=1000000000000->Calls prog 229 #[.agg e.cells] w fun e' w'=>e'=.returned (.int .i64 (members d:Int))/\Below w.heap.size w w'
theorem qgc(l:List Dt)(k:Nat)(h:k<l.length):membersL (l.take (k+1))=membersL (l.take k)+1+members l[k]:=by
 induction l generalizing k with
 |nil=>simp at h
 |cons a r ih=>
  cases k with
  |zero=>simp[membersL]
  |succ k=>simp only[List.take_succ_cons,membersL,List.getElem_cons_succ];rw[ih k (by simpa using h)];omega
theorem qi7(l:List Dt)(k:Nat):membersL (l.take k)<=membersL l:=by
 induction l generalizing k with
 |nil=>simp
 |cons a r ih=>
  cases k with
  |zero=>simp[membersL]
  |succ k=>simp only[List.take_succ_cons,membersL];have:=ih k;omega
theorem qhk(l:List Dt):l.length<=membersL l:=by
 induction l with
 |nil=>simp[membersL]
 |cons a r ih=>simp only[List.length_cons,membersL];omega
theorem qkz(N:Nat)(ih:CntSaid N)(G:Gh)(S:Sub)(m:Mc)(w:World)(l:List Dt)(xk xn:Int)(xtr:Bool)(xtx:ByteArray)(xm:Int)(xa:Option Addr)(xlen xcap:Nat)(i:Inv G S m w)(hz:SizeOf.sizeOf (Dt.list l)<=N)(hbig:membersL l<=1000000000000)
  (es:List Dl)(hl:l.length=es.length)(hd:∀(i:Nat) (d:Dt) (e:Dl),l[i]? =some d->es[i]? =some e->DRep G d e)(hlen:xlen=es.length)
  (hrow:∀(i j:Nat) (x:Dl),es[i]? =some x->j<6->∃g o,xa=some ⟨g,o,none⟩/\g<w.heap.size/\w.cell? ⟨g,o+i*6+j,none⟩=x.cells[j]?)(h100:xlen<=1000000):
  Calls prog 229 #[.agg (Dl.cells ⟨xk,xn,xtr,xtx,xm,xa,xlen,xcap⟩)] w fun e' w'=>e'=.returned (.int .i64 (membersL l:Int))/\Below w.heap.size w w':=by
 have HI:=hZ i;have HD:=hZ hd;have HL:=hZ hl;have HLen:=hZ hlen;have HRow:=hZ hrow;have HIh:=hZ ih;have HZ:=hZ hz;have HBig:=hZ hbig;clear i hd hl hlen hrow ih hz hbig;go_enter func229,ntmps229
 go_wp2;go_loopw [12,3] (fun c s wr=>∃(k:Nat),k<=xlen/\c=.int .i64 (k:Int)/\s=.int .i64 ((xlen:Int)+(membersL (l.take k):Int)-k)/\Below w.heap.size w wr) (fun c _ _=>xlen-(intOf c).toNat)
 case atStart=>exact⟨0,Nat.zero_le _,rfl,by simp[membersL],qab _ _⟩
 case round=>
  obtain⟨k,hk,rfl,rfl,hbl⟩:=hrel;have HB:=hZ hbl;clear hbl;by_cases hlt:k<xlen
  ·have hke:k<es.length:=by rw[<-HLen.out];exact hlt
   have hkl:k<l.length:=by rw[HL.out];exact hke
   obtain⟨⟨yk,yn,ytr,ytx,ym,ya,ylen,ycap⟩,hy⟩:∃y,y=es[k]:=⟨_,rfl⟩;have hey:es[k]? =some ⟨yk,yn,ytr,ytx,ym,ya,ylen,ycap⟩:=by rw[hy];exact List.getElem?_eq_getElem hke
   obtain⟨g,o,rfl,hgw,c00⟩:=HRow.out k 0 _ hey (by omega);have cell:∀j,j<6->wr.cell? ⟨g,o+k*6+j,none⟩=(Dl.cells ⟨yk,yn,ytr,ytx,ym,ya,ylen,ycap⟩)[j]?:=fun j hj=>by
    obtain⟨g',o',e1,e2,e3⟩:=HRow.out k j _ hey hj;cases e1;exact(HB.out.cell (p:=⟨g,o+k*6+j,none⟩) hgw).trans e3
   have c0:wr.cell? ⟨g,o+k*6,none⟩=some (.int .i64 yk):=cell 0 (by omega);have c1:wr.cell? ⟨g,o+k*6+1,none⟩=some (.int .i64 yn):=cell 1 (by omega);have c2:wr.cell? ⟨g,o+k*6+2,none⟩=some (.bool ytr):=cell 2 (by omega);have c3:wr.cell? ⟨g,o+k*6+3,none⟩=some (.string ytx):=cell 3 (by omega);have c4:wr.cell? ⟨g,o+k*6+4,none⟩=some (.int .i64 ym):=cell 4 (by omega);have c5:wr.cell? ⟨g,o+k*6+5,none⟩=some (.slice ya ylen ycap):=cell 5 (by omega);have hdr:=HD.out k l[k] _ (List.getElem?_eq_getElem hkl) hey;have hT:=qgc l k hkl;have hT2:=qi7 l (k+1);have hT3:k<=membersL (l.take k):=by have:=qhk (l.take k);simp at this;omega
   have hB0:=HBig.out;have HRep:Hid (∀w',Below wr.heap.size wr w'->Calls prog 229 #[.agg (Dl.cells ⟨yk,yn,ytr,ytx,ym,ya,ylen,ycap⟩)] w' fun e' w''=>e'=.returned (.int .i64 (members l[k]:Int))/\Below wr.heap.size wr w''):=fun w' hb=>by
    refine Calls.mono (HIh.out G S m w' l[k] _ (Nat.lt_of_lt_of_le (qj8 (List.getElem_mem hkl)) HZ.out) (HI.out.below (HB.out.trans (hb.mono HB.out.size))) hdr (by omega)) ?_;rintro e' w'' ⟨r1,r5⟩;exact⟨r1,hb.trans (r5.mono hb.size)⟩
   clear cell hy hdr c00;have hkl':(k:Int)<(xlen:Int):=by omega
   have HT:=hZ (And.intro hT (And.intro hT2 hT3));obtain⟨mk,hmk⟩:∃mk,mk=members l[k]:=⟨_,rfl⟩;obtain⟨sk,hsk⟩:∃sk,sk=membersL (l.take k):=⟨_,rfl⟩;rw[<-hmk]at HRep HT hT;rw[<-hsk]at HT hT hT3|-;have hbnd:(xlen:Int)+(sk:Int)-k+mk<=2000000000000/\0<=(xlen:Int)+(sk:Int)-k:=by omega
   clear hT hT2 hT3 hB0 hmk hsk;go_wp2_with (go_at_call 229;refine(HRep.out _ (qab _ _)).mono ?_;rintro e w2 ⟨rfl,r5⟩;have HR5:=hZ r5;clear r5)
   go_roundw
   case rel=>
    refine⟨k+1,by omega,by go_num,?_,HB.out.trans (HR5.out.mono HB.out.size)⟩;have:=HT.out.1;rw[this];first|(congr 1;push_cast;omega)|(go_num)|skip
   case measure=>simp[intOf];omega
  ·have hke:k=xlen:=by omega
   have HK:=hZ hke;clear hke;have htk:l.take k=l:=by rw[HK.out,HLen.out,<-HL.out];simp
   have hnl:¬(k:Int)<(xlen:Int):=by omega
   rw[htk];clear htk;go_wp2;go_ret;exact⟨by rw[HK.out];simp[Array.getD];try omega,HB.out⟩
theorem qgq:∀N,CntSaid N
 |0=>fun G S m w d e h=>by omega
 |N+1=>fun G S m w d e hz i h hbig=>by
  obtain⟨xk,xn,xtr,xtx,xm,xa,xlen,xcap⟩:=e;have atom:xlen=0->members d=0->Calls prog 229 #[.agg (Dl.cells ⟨xk,xn,xtr,xtx,xm,xa,xlen,xcap⟩)] w fun e' w'=>e'=.returned (.int .i64 (members d:Int))/\Below w.heap.size w w':=fun h0 h1=>by
   subst h0;rw[h1];have hN:2<=N:=by
    have h2:2<=SizeOf.sizeOf d:=by
     cases d with
     |num v=>
      rw[Dt.num.sizeOf_spec];cases v with
      |ofNat n=>rw[Int.ofNat.sizeOf_spec];omega
      |negSucc n=>rw[Int.negSucc.sizeOf_spec];omega
     |list l=>cases l <;> simp <;> omega
     |str t=>cases t <;> simp <;> omega
     |sym t k=>cases t <;> simp <;> omega
     |bool b=>cases b <;> simp
    omega
   exact qkz N (qgq N) G S m w [] xk xn xtr xtx xm xa 0 xcap i (by simp;omega) (by simp[membersL]) [] rfl (fun i d e h=>by simp at h) rfl (fun i j x h=>by simp at h) (by omega)
  cases h with
  |num e h h0 h1 hc=>exact atom hc.1 rfl
  |bool e h hc=>exact atom hc.1 rfl
  |str e h hs hc=>exact atom hc.1 rfl
  |sym e h hs hc=>exact atom hc rfl
  |nil e h hl=>
   obtain rfl:xlen=0:=hl;exact atom rfl rfl
  |list e h l es g o arr hl hc hm ha hg hr hs=>
   obtain rfl:xa=some ⟨g,o,none⟩:=ha;obtain⟨hs1,hs2⟩:=hs.at;exact qkz N (qgq N) G S m w l xk xn xtr xtx xm _ xlen xcap i (by omega) hbig es hs1 hs2 hl (fun i' j x hx hj=>⟨g,o,rfl,(Array.getElem?_eq_some_iff.1 (i.imm hg)).1,by rw[i.cell hg];exact hr i' j x hx hj⟩) (by have h2:xlen<=30000:=hm;omega)
theorem qmy(mb:Nat)(xk xn:Int)(xtr:Bool)(xtx:ByteArray)(xm:Int)(xa:Option Addr)(xlen xcap:Nat)(w:World)(Q:Ending->World->Prop)(hQ:∀e w,Q e w->∃v,e=.returned v)
  (hC:∀w',Lk ((w.alloc (.cells #[.pointer (some ⟨mb,0,none⟩)] 107)).alloc (.cells (Dl.cells ⟨xk,xn,xtr,xtx,xm,xa,xlen,xcap⟩) 134)) w'->Calls prog 229 #[.agg (Dl.cells ⟨xk,xn,xtr,xtx,xm,xa,xlen,xcap⟩)] w' fun e w1=>∃c,e=.returned (.int .i64 c)/\w1.cell? ⟨w.heap.size,0,none⟩=some (.pointer (some ⟨mb,0,none⟩))/\
   ∀w2,Lk (w1.alloc (.cells #[.int .i64 c] 3)) w2->Calls prog 339 #[.pointer (some ⟨mb,0,none⟩),.func (.func 340) #[] #[.pointer (some ⟨w.heap.size,0,none⟩),.pointer (some ⟨w1.heap.size,0,none⟩),.pointer (some ⟨w.heap.size+1,0,none⟩)]] w2 Q):
  Calls prog 298 #[.pointer (some ⟨mb,0,none⟩),.agg (Dl.cells ⟨xk,xn,xtr,xtx,xm,xa,xlen,xcap⟩)] w Q:=by
 have HC:=hZ hC;have HQ:=hZ hQ;clear hC hQ;go_enter func298,ntmps298
 go_wp2_with (go_at_call 229;refine(HC.out _ (by exact⟨rfl,rfl,rfl,rfl⟩)).mono ?_;rintro e w1 ⟨c,rfl,hc,hk⟩;have lc:=qac hc;have hc2:=qaj (o:=.cells #[.int .i64 c] 3) hc;have HK:=hZ hk;clear hk;refine Hid.out ?_)
 refine hZ ?_;go_wp2_with (go_at_call 339;refine(HK.out _ (by exact⟨rfl,rfl,rfl,rfl⟩)).mono ?_;intro e w2 hq;obtain⟨v,rfl⟩:=HQ.out _ _ hq)
 exact hq
theorem qky{G:Gh}{S:Sub}{m:Mc}{w:World}{sh:List Nat}{d:Dt}{e:Dl}(i:Inv G S m w)(hd:DRep G d e)(hbig:members d<=1000000000000):Calls prog 298 #[bp G.mb,.agg e.cells] w (Made G S m w sh (.quo d)):=by
 obtain⟨xk,xn,xtr,xtx,xm,xa,xlen,xcap⟩:=e;refine qmy G.mb xk xn xtr xtx xm xa xlen xcap w _ Made.ends fun w' hw=>?_
 have i2:=Inv.lk hw (i.alloc2 (.cells #[bp G.mb] 107) (.cells (Dl.cells ⟨xk,xn,xtr,xtx,xm,xa,xlen,xcap⟩) 134));have x2:=i.x2 (.cells #[bp G.mb] 107) (.cells (Dl.cells ⟨xk,xn,xtr,xtx,xm,xa,xlen,xcap⟩) 134);have m2:=(Mv.ext x2 ((qab _ _).alloc (by simp) _)).lk hw;generalize hH:(G.add w.heap.size (.cells #[bp G.mb] 107)).add (w.heap.size+1) (.cells (Dl.cells ⟨xk,xn,xtr,xtx,xm,xa,xlen,xcap⟩) 134)=H at i2 x2 m2;have h0:H.I w.heap.size=some (.cells #[bp G.mb] 107 (0,0)):=by rw[<-hH,qae _ (by omega)];exact Gh.add_at _ _ _
 have h1:H.I (w.heap.size+1)=some (.cells (Dl.cells ⟨xk,xn,xtr,xtx,xm,xa,xlen,xcap⟩) 134 (0,0)):=by rw[<-hH];exact Gh.add_at _ _ _
 have hmb:H.mb=G.mb:=x2.le.mb;refine Calls.mono (qgq _ H S m w' d _ (Nat.lt_succ_self _) i2 (hd.mono x2.le) hbig) ?_;rintro e' w1 ⟨rfl,hb⟩;have i3:=i2.below hb;refine⟨_,rfl,by rw[i3.cell h0];rfl,fun w2 hw2=>?_⟩;have i4:=Inv.lk hw2 (i3.alloc (.cells #[.int .i64 (members d:Int)] 3));have x4:=i3.x1 (.cells #[.int .i64 (members d:Int)] 3);have key:=qci (sh:=sh) (e:=.quo d) i4 (.quo sh d w.heap.size w1.heap.size (w.heap.size+1) _ (by
  show Gh.I _ _=some (.cells #[bp H.mb] 107 (0,0));rw[hmb];exact x4.le.I h0) (Gh.add_at _ _ _) (x4.le.I h1) ((hd.mono x2.le).mono x4.le))
 have e1:(H.add w1.heap.size (.cells #[.int .i64 (members d:Int)] 3)).mb=G.mb:=hmb;rw[e1]at key;exact Calls.mono key fun e w3 h=>h.after (m2.trans ((Mv.ext (Gh.ext.refl _ _) hb).trans ((Mv.ext x4 (qab _ _)).lk hw2)))
end
section
open Sc
abbrev idV(t:ByteArray)(m:Int):Value:=.agg #[.string t,.int .i64 m]
theorem eq382(a b:ByteArray)(m k:Int)(w:World):(Op.equal 382 (idV a m) (idV b k)).run prog w=.ok (a==b&&m==k) w:=by
 have h:(Op.equalIn 10000 382 (idV a m) (idV b k)).run prog w=.ok (a==b&&m==k) w:=by
  rw[show(10000:Nat)=9998+1+1 from rfl,Op.equalIn];simp[run_underlying underlying382,go_sem];rw[qe1];simp only[ByteArray.toList_eq];have hd:(a.data=b.data)=(a.data.toList=b.data.toList):=propext ⟨fun h=>by rw[h],fun h=>Array.toList_inj.1 h⟩;by_cases h1:a.data.toList=b.data.toList <;> by_cases h2:m=k <;> simp[hd,h1,h2]
 exact h
theorem qk0(e:Bool)(a:ByteArray)(m:Int)(w:World):(Instr.checkKey e 10000 382 (idV a m)).run prog w=.ok () w:=by
 kernel_rfl
abbrev keyV(i:Sc.Id):Value:=idV ⟨i.1.toArray⟩ i.2
def lookI{α:Type}(i:Sc.Id):List (Sc.Id×α)->Option α
 | []=>none
 |(j,a)::r=>if i=j then some a else lookI i r
theorem findI(t:ByteArray)(m:Int)(w:World):∀(es:List MapEntry) (L:List (Sc.Id×Value)) (n:Nat),es.map (fun e=>(e.key,e.val))=L.map (fun p=>(keyV p.1,p.2))->
  ∃r,(Instr.findAsking 382 (idV t m) es n).run prog w=.ok r w/\r.map (·.2)=lookI (t.data.toList,m) L
 | [],[],n,_=>⟨none,by simp[Instr.findAsking],rfl⟩
 | [],_::_,n,h=>by simp at h
 |_::_,[],n,h=>by simp at h
 |e::es,(j,v)::L,n,h=>by
  simp only[List.map_cons,List.cons.injEq,Prod.mk.injEq]at h;obtain⟨⟨h1,h2⟩,h3⟩:=h;have he:=eq382 t ⟨j.1.toArray⟩ m j.2 w;rw[qb8]at he;by_cases hj:(t.data.toList,m)=j
  ·subst hj;refine⟨some (n,v),?_,by simp[lookI]⟩;simp[Instr.findAsking,h1,he,h2]
  ·have hf:(decide (t.data.toList=j.1)&&m==j.2)=false:=by
    by_cases h4:t.data.toList=j.1
    ·have:¬m=j.2:=fun h5=>hj (Prod.ext h4 h5)
     simp[h4,this]
    ·simp[h4]
   rw[hf]at he;obtain⟨r,e1,e2⟩:=findI t m w es L (n+1) h3;exact⟨r,by simp[Instr.findAsking,h1,he,e1],by simpa[lookI,hj]using e2⟩
theorem qsq(t:ByteArray)(m:Int)(w:World)(es:List MapEntry)(L:List (Sc.Id×Value))(h:es.map (fun e=>(e.key,e.val))=L.map (fun p=>(keyV p.1,p.2))):
  ∃r,(Instr.findKey 382 (idV t m) es).run prog w=.ok r w/\r.map (·.2)=lookI (t.data.toList,m) L:=by
 cases es with
 |nil=>
  cases L with
  |nil=>exact⟨none,by simp[Instr.findKey,run_underlying underlying382,Instr.findNow],rfl⟩
  |cons a r=>simp at h
 |cons e es=>
  obtain⟨r,e1,e2⟩:=findI t m w (e::es) L 0 h;refine⟨r,?_,e2⟩;simp[Instr.findKey,run_underlying underlying382,Instr.findNow,Instr.sameNow,e1]
theorem qen(mp:Nat)(es:Array MapEntry)(clock:Nat)(L:List (Sc.Id×Value))(t:ByteArray)(m:Int)(w:World)(hw:w.heap[mp]? =some (.map es clock))(hL:es.toList.map (fun e=>(e.key,e.val))=L.map (fun p=>(keyV p.1,p.2))):
  (Instr.lookup 327 (.map (some mp)) (idV t m) false).run prog w=.ok ((lookI (t.data.toList,m) L).getD (.slice none 0 0)) w:=by
 obtain⟨r,e1,e2⟩:=qsq t m w es.toList L hL;have hg:=qa5 mp es clock w hw;cases r with
 |none=>
  cases hl:lookI (t.data.toList,m) L with
  |none=>simp[Instr.lookup,run_underlying underlying327,go_sem,hg,qk0,e1]
  |some b=>rw[hl]at e2;simp at e2
 |some p=>
  cases hl:lookI (t.data.toList,m) L with
  |none=>rw[hl]at e2;simp at e2
  |some b=>rw[hl]at e2;obtain⟨i,v⟩:=p;simp at e2;subst e2;simp[Instr.lookup,run_underlying underlying327,go_sem,hg,qk0,e1]
end
section
open Sc
def spots(i:Sc.Id):Scope->List (Nat×Nat)
 | []=>[]
 |l::r=>spots i r++(match findIn i l with|some n=>[(r.length+1,n)]|none=>[])
theorem qf3{i:Sc.Id}:∀{sc:Scope} {p:Nat×Nat},p∈spots i sc->1<=p.1/\p.1<=sc.length
 | [],p,h=>by simp[spots]at h
 |l::r,p,h=>by
  simp only[spots,List.mem_append]at h;rcases h with h|h
  ·have:=qf3 h;simp;omega
  ·cases hf:findIn i l with
   |none=>rw[hf]at h;simp at h
   |some n=>rw[hf]at h;simp at h;subst h;simp
theorem qea(i:Sc.Id):∀sc:Scope,(spots i sc).length<=sc.length
 | []=>by simp[spots]
 |l::r=>by
  have:=qea i r;simp only[spots,List.length_append,List.length_cons];cases findIn i l <;> simp <;> omega
theorem qdp(i:Sc.Id):∀sc:Scope,find i sc=(spots i sc).getLast?.map fun p=>(sc.length-p.1,p.2)
 | []=>rfl
 |l::r=>by
  cases hf:findIn i l with
  |some n=>simp[find,spots,hf]
  |none=>
   simp only[find,spots,hf,List.append_nil];rw[qdp i r];cases hl:(spots i r).getLast? with
   |none=>rfl
   |some p=>
    have:=qf3 (List.mem_of_getLast? hl);simp;omega
def spotCells(l:List (Nat×Nat)):List Value:=l.flatMap fun p=>[.int .i64 (p.1:Int),.int .i64 (p.2:Int)]
structure Xe where
 xb:Nat
 rb:Nat
 mm:Nat
 ab:Nat
 bm:Nat
 lo:Nat
 Rw:Nat->Prop
def ScMapF(X:Xe)(sp:Sc.Id->List (Nat×Nat))(w:World)(L:List (Sc.Id×Value)):Prop:=(∃es clock,w.heap[X.bm]? =some (.map es clock)/\es.toList.map (fun e=>(e.key,e.val))=L.map (fun p=>(keyV p.1,p.2))/\(es.toList.map (·.born)).Nodup/\∀e,e∈es.toList->e.born<clock)/\(L.map (·.1)).Nodup/\
 (∀p,p∈L->w.ownsRow X.lo 459 2 p.2 (sp p.1).length (spotCells (sp p.1)))/\(∀i,lookI i L=none->sp i=[])/\(L.filterMap (·.2.ownBlock)).Nodup
abbrev ScMap(X:Xe)(sc:Scope)(w:World)(L:List (Sc.Id×Value)):Prop:=ScMapF X (fun i=>spots i sc) w L
theorem qb5{α:Type}{i:Sc.Id}:∀{L:List (Sc.Id×α)} {a:α},lookI i L=some a->(i,a)∈L
 | [],_,h=>by simp[lookI]at h
 |(j,b)::r,a,h=>by
  by_cases hs:i=j
  ·subst hs;simp[lookI]at h;subst h;simp
  ·simp[lookI,hs]at h;exact List.mem_cons_of_mem _ (qb5 h)
theorem qg7(l:List (Nat×Nat))(k:Nat)(p:Nat×Nat)(h:l[k]? =some p):(spotCells l)[2*k]? =some (.int .i64 (p.1:Int))/\(spotCells l)[2*k+1]? =some (.int .i64 (p.2:Int)):=by
 induction l generalizing k with
 |nil=>simp at h
 |cons a r ih=>
  cases k with
  |zero=>simp at h;subst h;simp[spotCells]
  |succ k=>
   have:=ih k (by simpa using h);simp only[spotCells,List.flatMap_cons]at this|-;rw[show 2*(k+1)=2*k+2 from by omega,show 2*k+2+1=2*k+1+2 from by omega];simpa using this
theorem qh0(ab bm cap:Nat)(a:Option Addr)(_dp:Int)(t:ByteArray)(m:Int)(w:World)(h1:w.cell? ⟨ab,1,none⟩=some (.map (some bm)))(hbm:bm<w.heap.size)
  (hl:∀w',w'.heap[bm]? =w.heap[bm]?->(Instr.lookup 327 (.map (some bm)) (idV t m) false).run prog w'=.ok (.slice a 0 cap) w'):
  Calls prog 354 #[.pointer (some ⟨ab,0,none⟩),idV t m] w fun e w'=>e=.returned (.tuple #[.agg #[.int .i64 0,.int .i64 0],.bool false])/\Below w.heap.size w w':=by
 have l1:=qac h1;have lb:bm<w.heap.size:=hbm;have hl1:=hl ((w.alloc (.cells #[.string t,.int .i64 m] 382)).alloc (.cells #[.int .i64 0,.int .i64 0] 395)).drew (by show((w.alloc (.cells #[.string t,.int .i64 m] 382)).alloc (.cells #[.int .i64 0,.int .i64 0] 395)).heap[bm]? =_;rw[Below.heap_alloc _ _ _ (by simp;omega),Below.heap_alloc _ _ _ lb]);unfold idV at hl1;clear hl;go_enter func354,ntmps354
 go_wp2;go_region
 go_wp2;refine bodyPost_ret (v:=.tuple #[.agg #[.int .i64 0,.int .i64 0],.bool false]) (by simp[results,results354,go_sem, *]) rfl ?_;exact⟨rfl,bl2 (o:=.cells #[.string t,.int .i64 m] 382) (o2:=.cells #[.int .i64 0,.int .i64 0] 395) (by exact⟨rfl,rfl,rfl,rfl⟩)⟩
theorem qhz(ab bm cap g n:Nat)(dp d at':Int)(t:ByteArray)(m:Int)(w:World)(h0:w.cell? ⟨ab,0,none⟩=some (.int .i64 dp))(h1:w.cell? ⟨ab,1,none⟩=some (.map (some bm)))(hbm:bm<w.heap.size)
  (hl:∀w',w'.heap[bm]? =w.heap[bm]?->(Instr.lookup 327 (.map (some bm)) (idV t m) false).run prog w'=.ok (.slice (some ⟨g,0,none⟩) (n+1) cap) w')(c0:w.cell? ⟨g,n*2,none⟩=some (.int .i64 d))(c1:w.cell? ⟨g,n*2+1,none⟩=some (.int .i64 at'))(hn:n+1<=2000000000)(hd:0<=dp/\dp<=2000000000)(hd':0<=d/\d<=2000000000):
  Calls prog 354 #[.pointer (some ⟨ab,0,none⟩),idV t m] w fun e w'=>e=.returned (.tuple #[.agg #[.int .i64 (dp-d),.int .i64 at'],.bool true])/\Below w.heap.size w w':=by
 have l1:=qac h1;have l2:=qac c0;have lb:bm<w.heap.size:=hbm;have hl1:=hl ((w.alloc (.cells #[.string t,.int .i64 m] 382)).alloc (.cells #[.int .i64 0,.int .i64 0] 395)).drew (by show((w.alloc (.cells #[.string t,.int .i64 m] 382)).alloc (.cells #[.int .i64 0,.int .i64 0] 395)).heap[bm]? =_;rw[Below.heap_alloc _ _ _ (by simp;omega),Below.heap_alloc _ _ _ lb]);unfold idV at hl1;clear hl;have k0:(((w.alloc (.cells #[.string t,.int .i64 m] 382)).alloc (.cells #[.int .i64 0,.int .i64 0] 395)).alloc (.cells #[.int .i64 d,.int .i64 at'] 459)).cell? ⟨ab,0,none⟩=some (.int .i64 dp):=qaj (qaj (qaj h0));have hne:¬((n:Int)+1=0):=by omega
 have hs1:(n:Int)+1-1=n:=by omega
 have hlt:(n:Int)<(n:Int)+1:=by omega
 go_enter func354,ntmps354
 go_wp2;go_region
 go_wp2;go_region
 go_wp2;refine bodyPost_ret (v:=.tuple #[.agg #[.int .i64 (dp-d),.int .i64 at'],.bool true]) (by simp[results,results354,go_sem, *]) rfl ?_;exact⟨rfl,(((qab w (.cells #[.string t,.int .i64 m] 382)).alloc (by simp) (.cells #[.int .i64 (dp-d),.int .i64 at'] 395)).alloc (by simp;omega) (.cells #[.int .i64 d,.int .i64 at'] 459)).trans ((bl0 (by exact⟨rfl,rfl,rfl,rfl⟩)).mono (by simp;omega))⟩
end
end Go.Proofs.YtldaocpojcfljaaGreatDoor
