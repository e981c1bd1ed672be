import Derived.Test.YtldaocpojcfljaaGreatDoorC17
set_option maxRecDepth 100000
set_option maxHeartbeats 4000000
namespace Go.Proofs.YtldaocpojcfljaaGreatDoor
open Tryz hiding parts
open Go.RowKit Go.Shelf
section
open Sc
theorem eg314:Eg 314:=qak func314 (by kernel_rfl) (by kernel_rfl)
theorem WRep.ptr_eq {G:Gh} {S:Sub} {m:Mc} {w:World} {a b:List Wn} {p q:Option Addr} (_i:Inv G S m w) (h:WRep G a p) (k:WRep G b q) (e:a.map (fun x=>G.J[x.id]?)=b.map (fun x=>G.J[x.id]?)):p=q:=by
 cases h with
 |nil=>
  cases k with
  |nil=>rfl
  |cons=>simp at e
 |cons id a' c r b1 ba bc pd hj hb ha hc hr=>
  cases k with
  |nil=>simp at e
  |cons id' a2 c2 r2 b2 ba2 bc2 pd2 hj2 hb2 ha2 hc2 hr2=>
   simp only [List.map_cons,List.cons.injEq,Wn.id]at e
   rw [hj,hj2]at e
   obtain⟨e1,_⟩:=e
   cases e1;rfl
theorem qdx:∀{a b:List Nat},a.map some=b.map some→a=b
 | [],[],_=>rfl
 | [],_::_,h=>by simp at h
 |_::_,[],h=>by simp at h
 |x::a,y::b,h=>by
  simp only [List.map_cons,List.cons.injEq,Option.some.injEq]at h
  rw [h.1,qdx h.2]
theorem qka {S:Sub} {n:Nat} (G:Gh) (m:Mc) (w:World) (to pre rest:List Wn) (y:Wn) (v:Vl) (k:List Fr) (tp:Option Addr) (q4 q5:Nat) (sl x u:Value) (i:Inv G S m w) (ht:WRep G to tp) (hto:to=pre++y::rest) (hrest:rest.map (fun x=>G.J[x.id]?)=m.wnd.map (fun x=>G.J[x.id]?))
  (h4:G.I q4=some (.cells #[u] 295 (0,0))) (h5:G.I q5=some (.cells #[sl] 184 (0,0))) (hr:RowI G 116 sl [x]) (hv:VRep G v x) (hk:FRep G k u):
  Calls prog 313 #[bp G.mb,.pointer tp,.func (.func 314) #[] #[bp q4,bp q5]] w (Post G S n (applyTo S y.a [] [.into (y::rest) to v k] m).1 (applyTo S y.a [] [.into (y::rest) to v k] m).2):=by
 obtain⟨gv,wp,hma,hwp⟩:=i.ma
 obtain⟨bt,ht1,ht2⟩:=ht.wch i
 obtain⟨bw,hw1,hw2⟩:=hwp.wch i
 have hm4:w.cell? ⟨G.mb,4,none⟩=some (.pointer wp):=by simp [World.cell?,hma]
 obtain⟨q,hq⟩:=WRep.at pre y rest ht hto
 have hqq:=hq
 cases hq with
 |cons id a c r b ba bc pd hj hb ha hc hrr=>
  have hpd:pd=wp:=hrr.ptr_eq i hwp hrest
  subst hpd
  obtain⟨bp',hbp1,hbp2⟩:∃pb,bt=pb++b::bw∧True:=by
   rw [hto,List.map_append,List.map_cons]at ht2
   obtain⟨l1,l2,e1,e2,e3⟩:=List.map_eq_append_iff.1 ht2.symm
   refine⟨l1,?_,trivial⟩
   have e4:l2.map some=some b::bw.map some:=by
    rw [e3]
    show G.J[id]?::rest.map (fun x=>G.J[x.id]?)=_
    rw [hj,hrest,hw2]
   have e5:l2=b::bw:=by
    have:l2.map some=(b::bw).map some:=by rw [e4];rfl
    exact qdx this
   rw [e1,e5]
  subst hbp1
  have hne:tp≠pd:=fun e=>by
   rw [e]at ht1
   have:=congrArg List.length (ht1.uniq hw1)
   simp at this;omega
  have i5:=i.alloc5 (.cells #[bp G.mb] 107) (.cells #[.pointer tp] 117) (.cells #[.func (.func 314) #[] #[bp q4,bp q5]] 297) (.cells #[.func (.func 351) #[] #[bp w.heap.size,bp (w.heap.size+1),bp (w.heap.size+2)]] 294) (.cells #[.pointer (some ⟨b,0,none⟩)] 117)
  have x5:=i.x5 (.cells #[bp G.mb] 107) (.cells #[.pointer tp] 117) (.cells #[.func (.func 314) #[] #[bp q4,bp q5]] 297) (.cells #[.func (.func 351) #[] #[bp w.heap.size,bp (w.heap.size+1),bp (w.heap.size+2)]] 294) (.cells #[.pointer (some ⟨b,0,none⟩)] 117)
  refine qir G.mb 314 b ba bc #[bp q4,bp q5] tp pd bp' bw w _ Post.ends hm4 hw1 ht1 hne ht1.nodup (i.imm hb) ?_
  intro w' hw'
  have hap:=qbr (n:=n) _ m w' a [] [.into (.mk id a c::rest) to v k] (.iface 281 (bp ba)) none 0 0 353 _ (Inv.lk hw' i5) (.proc a ba (ha.mono x5.le)) (.inl ⟨rfl,none,0,rfl⟩)
   (.into (.mk id a c::rest) to v k [] (w.heap.size+4) w.heap.size (w.heap.size+3) (.func (.func 351) #[] #[bp w.heap.size,bp (w.heap.size+1),bp (w.heap.size+2)]) (some ⟨b,0,none⟩) (by exact Gh.add_at _ _ _)
    (by show _=some (Obj.cells #[bp G.mb] 107 (0,0));rw [qae _ (by omega),qae _ (by omega),qae _ (by omega),qae _ (by omega)];exact Gh.add_at _ _ _)
    (by rw [qae _ (by omega)];exact Gh.add_at _ _ _) (hqq.mono x5.le)
    (.back to v k [] w.heap.size (w.heap.size+1) (w.heap.size+2) q4 q5 sl x u tp
     (by show _=some (Obj.cells #[bp G.mb] 107 (0,0));rw [qae _ (by omega),qae _ (by omega),qae _ (by omega),qae _ (by omega)];exact Gh.add_at _ _ _)
     (by rw [qae _ (by omega),qae _ (by omega),qae _ (by omega)];exact Gh.add_at _ _ _)
     (by rw [qae _ (by omega),qae _ (by omega)];exact Gh.add_at _ _ _) (x5.le.I h4) (x5.le.I h5) (hr.mono x5.le) (hv.mono x5.le) (ht.mono x5.le) (hk.mono x5.le)))
  exact Calls.mono hap fun e w p=>p.up x5.up
theorem qdi {S:Sub} {n:Nat} (ihv:SimV S n) (G:Gh) (m:Mc) (w:World) (to:List Wn) (v:Vl) (k:List Fr) (tp:Option Addr) (q4 q5:Nat) (sl x u:Value) (i:Inv G S m w) (ht:WRep G to tp)
  (h4:G.I q4=some (.cells #[u] 295 (0,0))) (h5:G.I q5=some (.cells #[sl] 184 (0,0))) (hr:RowI G 116 sl [x]) (hv:VRep G v x) (hk:FRep G k u) (he:Ct.ended (go S n (rewind S to v k m).1 (rewind S to v k m).2).1=true):
  Calls prog 313 #[bp G.mb,.pointer tp,.func (.func 314) #[] #[bp q4,bp q5]] w (Post G S n (rewind S to v k m).1 (rewind S to v k m).2):=by
 obtain⟨gv,wp,hma,hwp⟩:=i.ma
 obtain⟨bt,ht1,ht2⟩:=ht.wch i
 obtain⟨bw,hw1,hw2⟩:=hwp.wch i
 have hm4:w.cell? ⟨G.mb,4,none⟩=some (.pointer wp):=by simp [World.cell?,hma]
 have htl:to.length=bt.length:=by have:=congrArg List.length ht2;simpa using this
 have hwl:m.wnd.length=bw.length:=by have:=congrArg List.length hw2;simpa using this
 by_cases hsame:tp=wp
 ·subst hsame
  have hb:=ht1.uniq hw1
  subst hb
  have hret:rewind S to v k m=(.ret v k,m):=by
   have hen:rewind.enter S to v k m=(.ret v k,m):=by unfold rewind.enter;rw [if_pos (by omega)]
   unfold rewind
   rcases hmw:m.wnd with _|⟨x0,ws⟩
   ·exact hen
   ·rw [hmw]at hw2
    simp only
    cases bt with
    |nil=>simp at hw2
    |cons b0 bs=>
     simp only [List.map_cons,List.cons.injEq]at hw2
     have:=qj4 i ht2 hw2.1
     rw [this];simp [hen]
  rw [hret]at he⊢
  obtain⟨ku,cu,rfl,egu⟩:=hk.isF
  obtain⟨g,o,cap,arr,rfl,hg,hc1,hc2,hrow⟩:=hr
  obtain⟨t,y,rfl⟩:=hv.form
  refine qip G.mb 314 #[bp q4,bp q5] tp w _ eg314 Post.ends hm4 ht1.ptr ?_
  intro w' hw'
  have i3:=Inv.lk hw' (i.below (((((Below.refl _ _).alloc (Nat.le_refl _) _).alloc (by simp) _).alloc (by simp;omega) _)))
  refine cont11 q4 q5 ku g o cap t y cu w' _ egu Post.ends (by rw [i3.cell h4];rfl) (by rw [i3.cell h5];rfl) (by rw [i3.cell hg];exact hrow 0 _ rfl) ?_
  intro w'' hw''
  exact ihv G m w'' v k _ ku cu (Inv.lk hw'' i3) hv hk he
 ·rcases hmw:m.wnd with _|⟨x0,ws⟩
  ·
   have hne:to≠[]:=fun e=>by
    subst e
    cases ht
    rw [hmw]at hwp
    cases hwp
    exact hsame rfl
   obtain⟨pre,y,hto⟩:∃pre y,to=pre++[y]:=⟨to.dropLast,to.getLast hne,(List.dropLast_concat_getLast hne).symm⟩
   have hrw:rewind S to v k m=applyTo S y.a [] [.into [y] to v k] m:=by
    unfold rewind
    rw [hmw]
    simp only
    unfold rewind.enter
    have hl:to.length=pre.length+1:=by rw [hto];simp
    rw [hmw,if_neg (by simp;omega)]
    have hdr:to.drop (to.length-([]:List Wn).length-1)=[y]:=by rw [hl];simp [hto]
    rw [hdr]
   rw [hrw]
   exact qka G m w to pre [] y v k tp q4 q5 sl x u i ht hto (by rw [hmw]) h4 h5 hr hv hk
  ·rw [hmw]at hw2 hwp
   cases bw with
   |nil=>simp at hw2
   |cons b0 bs=>
    simp only [List.map_cons,List.cons.injEq]at hw2
    have hany:=qj4 i ht2 hw2.1
    by_cases hmem:b0∈bt
    ·
     obtain⟨p1,p2,hsp⟩:=List.append_of_mem hmem
     obtain⟨l1,l2,e1,e2,e3⟩:=List.map_eq_append_iff.1 (show to.map (fun x=>G.J[x.id]?)=p1.map some++(b0::p2).map some by rw [ht2,hsp];simp)
     have hq:∃q,Wch w (b0::p2) q:=by rw [hsp]at ht1;exact ht1.split
     obtain⟨q,hq⟩:=hq
     have hbp:b0::p2=b0::bs:=by
      have hqp:q=wp:=by
       obtain⟨_,_,_,f1,_⟩:=hq
       obtain⟨_,_,_,f2,_⟩:=hw1
       rw [f1,f2]
      rw [hqp]at hq;exact hq.uniq hw1
     have hl2:l2.map (fun x=>G.J[x.id]?)=m.wnd.map (fun x=>G.J[x.id]?):=by
      rw [e3,hbp,hmw]
      show some b0::bs.map some=G.J[x0.id]?::ws.map (fun x=>G.J[x.id]?)
      rw [hw2.1,hw2.2]
     have hl1:l1≠[]:=fun e=>by
      subst e
      have:p1=[]:=by cases p1 with|nil=>rfl|cons=>simp at e2
      subst this
      simp at hsp
      rw [hsp,hbp]at ht1
      obtain⟨_,_,_,f1,_⟩:=ht1
      obtain⟨_,_,_,f2,_⟩:=hw1
      exact hsame (f1.trans f2.symm)
     obtain⟨pre,y,hpre⟩:∃pre y,l1=pre++[y]:=⟨l1.dropLast,l1.getLast hl1,(List.dropLast_concat_getLast hl1).symm⟩
     have hto:to=pre++y::l2:=by rw [e1,hpre];simp
     have hlen:l2.length=m.wnd.length:=by have:=congrArg List.length hl2;simpa using this
     have hrw:rewind S to v k m=applyTo S y.a [] [.into (y::l2) to v k] m:=by
      have hen:rewind.enter S to v k m=applyTo S y.a [] [.into (y::l2) to v k] m:=by
       unfold rewind.enter
       have hl:to.length=pre.length+1+l2.length:=by rw [hto];simp;omega
       rw [if_neg (by omega)]
       have hdr:to.drop (to.length-m.wnd.length-1)=y::l2:=by
        rw [show to.length-m.wnd.length-1=pre.length from by omega,hto];simp
       rw [hdr]
      unfold rewind
      rw [hmw]
      simp only
      rw [hany,if_pos (by simpa using hmem)]
      exact hen
     rw [hrw]
     exact qka G m w to pre l2 y v k tp q4 q5 sl x u i ht hto hl2 h4 h5 hr hv hk
    ·
     cases hwp with
     |cons id a c r b ba bc pd hj hb ha hc hrr=>
      have hbb:b=b0:=by have:=hw2.1;rw [show G.J[(Wn.mk id a c).id]? =some b from hj]at this;cases this;rfl
      subst hbb
      have hrw:rewind S to v k m=applyTo S c [] [.back to v k] {m with wnd:=ws}:=by
       unfold rewind
       rw [hmw]
       simp only
       rw [hany,if_neg (by simpa using hmem)]
       rfl
      rw [hrw]
      have iw:=i.winders ws pd hrr
      have i4:=iw.alloc4 (.cells #[bp G.mb] 107) (.cells #[.pointer tp] 117) (.cells #[.func (.func 314) #[] #[bp q4,bp q5]] 297) (.cells #[.func (.func 351) #[] #[bp w.heap.size,bp (w.heap.size+1),bp (w.heap.size+2)]] 294)
      have x4:=iw.x4 (.cells #[bp G.mb] 107) (.cells #[.pointer tp] 117) (.cells #[.func (.func 314) #[] #[bp q4,bp q5]] 297) (.cells #[.func (.func 351) #[] #[bp w.heap.size,bp (w.heap.size+1),bp (w.heap.size+2)]] 294)
      rw [qaf]at i4 x4
      refine qiq G.mb 314 b ba bc #[bp q4,bp q5] tp pd bt w _ Post.ends hm4 (i.mbf 4) (i.imm hb) (i.ne hb i.m1) ht1 hmem ?_
      intro w' hw'
      have hap:=qbr (n:=n) _ {m with wnd:=ws} w' c [] [.back to v k] (.iface 281 (bp bc)) none 0 0 351 _ (Inv.lk hw' i4) (.proc c bc (hc.mono x4.le)) (.inl ⟨rfl,none,0,rfl⟩)
       (.back to v k [] w.heap.size (w.heap.size+1) (w.heap.size+2) q4 q5 sl x u tp
        (by show _=some (Obj.cells #[bp G.mb] 107 (0,0));rw [qae _ (by omega),qae _ (by omega),qae _ (by omega)];exact Gh.add_at _ _ _)
        (by rw [qae _ (by omega),qae _ (by omega)];exact Gh.add_at _ _ _)
        (by rw [qae _ (by omega)];exact Gh.add_at _ _ _) (x4.le.I h4) (x4.le.I h5) (hr.mono x4.le) (hv.mono x4.le) (ht.mono x4.le) (hk.mono x4.le))
      exact Calls.mono hap fun e w p=>p.up x4.up
end
section
open Sc
section
variable {S:Sub} {n:Nat} {G:Gh} {m:Mc} {w:World} {v:Vl} {x:Value} {k:List Fr}
theorem Inv.mb4 (i:Inv G S m w):∃wp,w.cell? ⟨G.mb,4,Option.none⟩=some (.pointer wp)∧WRep G m.wnd wp:=by obtain⟨gv,wp,h,hw⟩:=i.ma;exact⟨wp,by simp [World.cell?,h],hw⟩
theorem qn3 (ihv:SimV S n) (i:Inv G S m w) {v0:Vl} {q1 q2:Nat} {x0 u:Value} (h1:G.I q1=some (.cells #[u] 295 (0,0))) (h2:G.I q2=some (.cells #[x0] 116 (0,0))) (hv0:VRep G v0 x0) (hk:FRep G k u) (he:Ct.ended (go S (n+1) (.ret v (.wind3 v0::k)) m).1=true):
  Calls prog 317 (#[x]++#[bp q1,bp q2]) w (Post G S (n+1) (.ret v (.wind3 v0::k)) m):=by
 obtain⟨ku,cu,rfl,egu⟩:=hk.isF
 obtain⟨t,y,rfl⟩:=hv0.form
 have hnx:Sc.next S (.ret v (.wind3 v0::k)) m=(.ret v0 k,m):=rfl
 rw [qan hnx rfl]at he
 refine qqk q1 q2 ku t x y cu w _ egu Post.ends (by rw [i.cell h1];rfl) (by rw [i.cell h2];rfl) ?_
 intro w' hw
 exact Calls.mono (ihv G m w' v0 k _ ku cu (Inv.lk hw i) hv0 hk he) fun e w p=>Post.step hnx rfl (Gh.up.refl G) p
theorem qn4 (i:Inv G S m w) (hv:VRep G v x) {c:Vl} {ws:List Wn} {q1 q2 q3 q4 bc:Nat} {u:Value} {wp:Option Addr} (h1:G.I q1=some (.cells #[.pointer wp] 117 (0,0))) (h2:G.mbox q2) (h3:G.I q3=some (.cells #[bp bc] 281 (0,0))) (h4:G.I q4=some (.cells #[u] 295 (0,0)))
  (hw:WRep G ws wp) (hc:QRep G c bc) (hk:FRep G k u):
  Calls prog 316 (#[x]++#[bp q1,bp q2,bp q3,bp q4]) w (Post G S (n+1) (.ret v (.wind2 c ws::k)) m):=by
 obtain⟨t,y,rfl⟩:=hv.form
 obtain⟨wp0,hm4,_⟩:=i.mb4
 have hnx:Sc.next S (.ret v (.wind2 c ws::k)) m=applyTo S c [] (.wind3 v::k) {m with wnd:=ws}:=rfl
 have iw:=i.winders ws wp hw
 have i1:=iw.alloc (.cells #[.iface t y] 116)
 have x1:=iw.x1 (.cells #[.iface t y] 116)
 rw [qaf]at i1 x1
 refine qql q1 q2 q3 q4 G.mb bc t y y wp w _ Post.ends (by rw [i.cell h1];rfl) (by rw [i.cell h2];rfl) (by rw [i.cell h3];rfl) ⟨_,hm4⟩ (i.mbf 4) (i.ne h2 i.m1) (i.ne h3 i.m1) ?_
 intro w' hw'
 have hap:=qbr (n:=n) _ {m with wnd:=ws} w' c [] (.wind3 v::k) (.iface 281 (bp bc)) none 0 0 317 _ (Inv.lk hw' i1) (.proc c bc (hc.mono x1.le)) (.inl ⟨rfl,none,0,rfl⟩)
  (.wind3 v k q4 w.heap.size (.iface t y) u (x1.le.I h4) (by exact Gh.add_at _ _ _) (hv.mono x1.le) (hk.mono x1.le))
 exact Calls.mono hap fun e w p=>Post.step hnx rfl x1.up p
theorem qn5 (i:Inv G S m w) {a b c:Vl} {q1 q2 q3 q4 q5 ba bb bc:Nat} {u:Value} (h1:G.mbox q1) (h2:G.I q2=some (.cells #[bp ba] 281 (0,0))) (h3:G.I q3=some (.cells #[bp bc] 281 (0,0))) (h4:G.I q4=some (.cells #[bp bb] 281 (0,0))) (h5:G.I q5=some (.cells #[u] 295 (0,0)))
  (ha:QRep G a ba) (hb:QRep G b bb) (hc:QRep G c bc) (hk:FRep G k u):
  Calls prog 315 (#[x]++#[bp q1,bp q2,bp q3,bp q4,bp q5]) w (Post G S (n+1) (.ret v (.wind1 a b c::k)) m):=by
 obtain⟨wp,hm4,hwp⟩:=i.mb4
 have hnx:Sc.next S (.ret v (.wind1 a b c::k)) m=applyTo S b [] (.wind2 c m.wnd::k) {m with wnd:=.mk m.ids a c::m.wnd,ids:=m.ids+1}:=rfl
 have i1:=i.alloc (.cells #[.pointer wp] 117)
 have x1:=i.x1 (.cells #[.pointer wp] 117)
 have i2:=i1.newObj (.cells #[bp ba,bp bc,.pointer wp] 393)
 have x2:=i1.ext_newObj (.cells #[bp ba,bp bc,.pointer wp] 393)
 have a2:=i1.at_newObj (.cells #[bp ba,bp bc,.pointer wp] 393)
 have hz:(w.alloc (.cells #[.pointer wp] 117)).heap.size=w.heap.size+1:=by simp
 rw [hz]at i2 x2 a2
 have L:=x1.le.trans x2.le
 have hwn:WRep ((((G.add w.heap.size (.cells #[.pointer wp] 117)).add (w.heap.size+1) (.cells #[bp ba,bp bc,.pointer wp] 393)).id (w.heap.size+1))) (.mk m.ids a c::m.wnd) (some ⟨w.heap.size+1,0,none⟩):=
  .cons m.ids a c m.wnd (w.heap.size+1) ba bc wp a2 (by exact Gh.add_at _ _ _) (ha.mono L) (hc.mono L) (hwp.mono L)
 have i3:=i2.winders (.mk m.ids a c::m.wnd) (some ⟨w.heap.size+1,0,none⟩) hwn
 have hml:=qac hm4
 refine qqm q1 q2 q3 q4 q5 G.mb ba bb bc x wp w _ Post.ends (by rw [i.cell h1];rfl) (by rw [i.cell h2];rfl) (by rw [i.cell h3];rfl) (by rw [i.cell h4];rfl) hm4 (i.mbf 4) (i.ne h1 i.m1) (i.ne h4 i.m1) ?_
 intro w' hw'
 have hheap:w'.heap=(((w.alloc (.cells #[.pointer wp] 117)).alloc (.cells #[bp ba,bp bc,.pointer wp] 393)).setCell ⟨G.mb,4,none⟩ (.pointer (some ⟨w.heap.size+1,0,none⟩))).heap:=by
  rw [hw'.heap,qbk _ _ _ (by simp;omega)]
  exact qay _ (qbk _ _ _ hml).symm
 have i3':=Inv.lk (w':=w') ⟨hheap,hw'.tape,hw'.os,hw'.output⟩ i3
 have hap:=qbr (n:=n) _ _ w' b [] (.wind2 c m.wnd::k) (.iface 281 (bp bb)) none 0 0 316 _ i3' (.proc b bb (hb.mono L)) (.inl ⟨rfl,none,0,rfl⟩)
  (.wind2 c m.wnd k w.heap.size q1 q3 q5 bc u wp (x2.le.I (Gh.add_at _ _ _)) (L.mbox h1) (L.I h3) (L.I h5) (hwp.mono L) (hc.mono L) (hk.mono L))
 exact Calls.mono hap fun e w p=>Post.step hnx rfl (x1.up.trans x2.up) p
theorem qri (ihv:SimV S n) (i:Inv G S m w) {ws:List Wn} {v0:Vl} {r:List Fr} {q1 q2 q3 q4 q5:Nat} {sl x0 u:Value} {wp:Option Addr} (h1:G.mbox q1) (h2:G.I q2=some (.cells #[.pointer wp] 117 (0,0))) (h3:G.I q3=some (.cells #[.func (.func 314) #[] #[bp q4,bp q5]] 297 (0,0)))
  (h4:G.I q4=some (.cells #[u] 295 (0,0))) (h5:G.I q5=some (.cells #[sl] 184 (0,0))) (hr:RowI G 116 sl [x0]) (hv0:VRep G v0 x0) (hw:WRep G ws wp) (hk:FRep G k u) (he:Ct.ended (go S (n+1) (.ret v (.back ws v0 k::r)) m).1=true):
  Calls prog 351 (#[x]++#[bp q1,bp q2,bp q3]) w (Post G S (n+1) (.ret v (.back ws v0 k::r)) m):=by
 have hnx:Sc.next S (.ret v (.back ws v0 k::r)) m=rewind S ws v0 k m:=rfl
 rw [qan hnx rfl]at he
 refine qp9 q1 q2 q3 G.mb x (.func (.func 314) #[] #[bp q4,bp q5]) wp 314 #[bp q4,bp q5] w _ Post.ends rfl (by rw [i.cell h1];rfl) (by rw [i.cell h2];rfl) (by rw [i.cell h3];rfl) ?_
 intro w' hw'
 exact Calls.mono (qdi ihv G m w' ws v0 k wp q4 q5 sl x0 u (Inv.lk hw' i) hw h4 h5 hr hv0 hk he) fun e w p=>Post.step hnx rfl (Gh.up.refl G) p
end
end
section
open Sc
section
variable {S:Sub} {n:Nat} {G:Gh} {m:Mc} {w:World} {v:Vl} {x:Value} {k:List Fr}
theorem qrg (ihv:SimV S n) (i:Inv G S m w) (hv:VRep G v x) {now ws:List Wn} {v0:Vl} {r:List Fr} {q1 q2 q3:Nat} {y:Value} {np:Option Addr} (h1:G.I q1=some (.cells #[.pointer np] 117 (0,0))) (h2:G.mbox q2) (h3:G.I q3=some (.cells #[y] 294 (0,0)))
  (hnow:WRep G now np) (hy:FRep G (.back ws v0 k::r) y) (he:Ct.ended (go S (n+1) (.ret v (.into now ws v0 k::r)) m).1=true):
  Calls prog 353 (#[x]++#[bp q1,bp q2,bp q3]) w (Post G S (n+1) (.ret v (.into now ws v0 k::r)) m):=by
 obtain⟨t,z,rfl⟩:=hv.form
 obtain⟨wp0,hm4,_⟩:=i.mb4
 have hnx:Sc.next S (.ret v (.into now ws v0 k::r)) m=rewind S ws v0 k {m with wnd:=now}:=rfl
 rw [qan hnx rfl]at he
 have iw:=i.winders now np hnow
 cases hy with
 |back ws v0 k r p1 p2 p3 p4 p5 sl x0 u wp g1 g2 g3 g4 g5 hr hv0 hw hk=>
  refine into_go q1 q2 q3 G.mb 351 t z np #[bp p1,bp p2,bp p3] w _ eg351 Post.ends (by rw [i.cell h1];rfl) (by rw [i.cell h2];rfl) (by rw [i.cell h3];rfl) ⟨_,hm4⟩ (i.mbf 4) (i.ne h3 i.m1) ?_
  intro w' hw'
  have i':=Inv.lk hw' iw
  refine qp9 p1 p2 p3 G.mb (.iface t z) (.func (.func 314) #[] #[bp p4,bp p5]) wp 314 #[bp p4,bp p5] w' _ Post.ends rfl (by rw [i'.cell g1];rfl) (by rw [i'.cell g2];rfl) (by rw [i'.cell g3];rfl) ?_
  intro w'' hw''
  exact Calls.mono (qdi ihv G {m with wnd:=now} w'' ws v0 k wp p4 p5 sl x0 u (Inv.lk hw'' i') hw g4 g5 hr hv0 hk he) fun e w p=>Post.step hnx rfl (Gh.up.refl G) p
end
theorem sim_ret {S:Sub} {n:Nat} (ihe:SimE S n) (ihv:SimV S n):SimV S (n+1):=by
 intro G m w v k x ku cu i hv hk he
 cases hk with
 |nil q h=>exact ret_nil i hv h
 |ite sh t e env k q1 q2 q3 q4 xe xt u pf h1 h2 h3 h4 ht hel hn hs hk=>exact ret_ite ihe ihv i hv h1 h2 h3 h4 ht hel hn hs hk he
 |set sh t env k q1 q2 q3 xs u pf h1 h2 h3 ht hn hs hk=>exact ret_set ihv i hv h1 h2 h3 ht hn hs hk he
 |body sh l env k q1 q2 q3 xl u pf h1 h2 h3 hl hn hs hk=>exact qrh ihe i h1 h2 h3 hl hn hs hk he
 |app sh vs l env k q1 q2 q3 q4 q5 q6 q7 sl x0 u xs pf pd h1 h2 h3 h4 h5 h6 h7 hb hr hx hc hn hs hk=>exact ret_app ihe i hv h1 h2 h3 h4 h5 h6 h7 hb hr hx hc hn hs hk he
 |wind1 a b c k q1 q2 q3 q4 q5 ba bb bc u h1 h2 h3 h4 h5 ha hb hc hk=>exact qn5 i h1 h2 h3 h4 h5 ha hb hc hk
 |wind2 c ws k q1 q2 q3 q4 bc u wp h1 h2 h3 h4 hw hc hk=>exact qn4 i hv h1 h2 h3 h4 hw hc hk
 |wind3 v0 k q1 q2 x0 u h1 h2 hv0 hk=>exact qn3 ihv i h1 h2 hv0 hk he
 |back ws v0 k r q1 q2 q3 q4 q5 sl x0 u wp h1 h2 h3 h4 h5 hr hv0 hw hk=>exact qri ihv i h1 h2 h3 h4 h5 hr hv0 hw hk he
 |into now ws v0 k r q1 q2 q3 y np h1 h2 h3 hnow hy=>exact qrg ihv i hv h1 h2 h3 hnow hy he
theorem qav (S:Sub):∀n,SimE S n∧SimV S n
 |0=>⟨fun G m w sh e env k kx ku cx cu pf _ _ _ _ _ he=>by simp [go,Ct.ended]at he,fun G m w v k x ku cu _ _ _ he=>by simp [go,Ct.ended]at he⟩
 |n+1=>⟨sim_ev (qav S n).1 (qav S n).2,sim_ret (qav S n).1 (qav S n).2⟩
end
section
open Sc
theorem qs5 (q1 q2 q3 mb sc:Nat) (sa wp:Option Addr) (uu:Value) (w:World) (Q:Ending→World→Prop) (hQ:∀e w,Q e w→(∃v,e=.returned v)∨(∃ps,e=.panicked ps))
  (h1:w.cell? ⟨q1,0,none⟩=some (.pointer (some ⟨mb,0,none⟩))) (h2:w.cell? ⟨q2,0,none⟩=some (.pointer wp))
  (hK:∀w',Lk (w.alloc (.cells #[.slice sa 1 sc] 184)) w'→Calls prog 313 #[.pointer (some ⟨mb,0,none⟩),.pointer wp,.func (.func 314) #[] #[.pointer (some ⟨q3,0,none⟩),.pointer (some ⟨w.heap.size,0,none⟩)]] w' Q):
  Calls prog 312 #[.slice sa 1 sc,uu,.pointer (some ⟨q1,0,none⟩),.pointer (some ⟨q2,0,none⟩),.pointer (some ⟨q3,0,none⟩)] w Q:=by
 have HK:=hZ hK
 have HQ:=hZ hQ
 have k1:∀o,(w.alloc o).cell? ⟨q1,0,none⟩=some (.pointer (some ⟨mb,0,none⟩)):=fun o=>(qad (qac h1) o).trans h1
 have k2:∀o,(w.alloc o).cell? ⟨q2,0,none⟩=some (.pointer wp):=fun o=>(qad (qac h2) o).trans h2
 clear hK hQ
 go_enter func312,ntmps312
 go_wp2_with (go_at_call 273;refine(qbi _ _).mono ?_;rintro e w2 ⟨rfl,hww⟩;obtain rfl:=hww.symm)
 go_wp2_with (go_at_call 313;refine(HK.out _ (by exact⟨rfl,rfl,rfl,rfl⟩)).mono ?_;intro e w3 hq)
 all_goals first|exact hq|exact⟨rfl,hq⟩|(rcases HQ.out _ _ hq with⟨v,h⟩|⟨ps,h⟩ <;> cases h)
theorem qpz (q1 q2 q3 n sc:Nat) (sa:Option Addr) (uu:Value) (w:World) (hn:n≠1):
  Calls prog 312 #[.slice sa n sc,uu,.pointer (some ⟨q1,0,none⟩),.pointer (some ⟨q2,0,none⟩),.pointer (some ⟨q3,0,none⟩)] w fun e w'=>e=.panicked (stopP (stopV 7))∧Below w.heap.size w w':=by
 have hee:((n:Int)==1)=false:=by simp;omega
 go_enter func312,ntmps312
 go_wp2_with (go_at_call 273;refine(qbh _ _).mono ?_;rintro e w2 ⟨rfl,o,rfl⟩)
 exact⟨rfl,rfl,((Below.refl _ _).alloc (Nat.le_refl _) _).alloc (by simp) _⟩
end
end Go.Proofs.YtldaocpojcfljaaGreatDoor
