import Derived.Test.YtldaocpojcfljaaGreatDoorD08
import Derived.Deep.LoopGhost
set_option maxRecDepth 100000
set_option maxHeartbeats 4000000
namespace Go.Proofs.YtldaocpojcfljaaGreatDoor
open Tryz hiding parts
open Go.RowKit Go.Shelf
section
open Sc
theorem cont11(q4 q5 k g o cap t:Nat)(y:Value)(cp:Array Value)(w:World)(Q:Ending->World->Prop)
  (eg:∀args w,(callFunc k args).run prog w=.ok (.enter k args) w)(hQ:∀e w,Q e w->(∃v,e=.returned v)\/(∃ps,e=.panicked ps))
  (h4:w.cell? ⟨q4,0,none⟩=some (.func (.func k) #[] cp))(h5:w.cell? ⟨q5,0,none⟩=some (.slice (some ⟨g,o,none⟩) 1 cap))(hg:w.cell? ⟨g,o,none⟩=some (.iface t y))
  (hK:∀w',Lk w w'->Calls prog k (#[.iface t y]++cp) w' Q):
  Calls prog 314 #[.pointer (some ⟨q4,0,none⟩),.pointer (some ⟨q5,0,none⟩)] w Q:=by
 have HK:=hZ hK;have HQ:=hZ hQ;clear hK hQ;go_enter func314,ntmps314
 go_wp2;refine qai 4 (by kernel_rfl) (by kernel_rfl) ?_;simp only[List.take_succ_cons,List.take_zero,List.drop_succ_cons,List.drop_zero];repeat still_step
 refine wpStill_nil ?_;go_wp2_with (go_at_fn k;refine(HK.out _ (by exact⟨rfl,rfl,rfl,rfl⟩)).mono ?_;intro e w3 hq)
 all_goals first|exact hq|exact⟨rfl,hq⟩|(rcases HQ.out _ _ hq with⟨v,h⟩|⟨ps,h⟩ <;> cases h)
theorem WRep.wch{G:Gh}{S:Sub}{m:Mc}{w:World}(i:Inv G S m w):∀{l:List Wn} {p:Option Addr},WRep G l p->∃bs,Wch w bs p/\l.map (fun x=>G.J[x.id]?)=bs.map some
 |_,_,.nil=>⟨[],rfl,rfl⟩
 |_,_,.cons id a c r b ba bc pd hj hb _ _ hr=>by
  obtain⟨bs,h1,h2⟩:=WRep.wch i hr;exact⟨b::bs,⟨ba,bc,pd,rfl,i.imm hb,h1⟩,by rw[List.map_cons,List.map_cons,h2];exact congrArg (·::_) hj⟩
theorem Wch.nodup{w:World}:∀{bs:List Nat} {p:Option Addr},Wch w bs p->bs.Nodup
 | [],_,_=>List.nodup_nil
 |b::r,p,h=>by
  have h0:=h;obtain⟨ba,bc,q,e1,e2,e3⟩:=h;refine List.nodup_cons.2 ⟨fun hm=>?_,e3.nodup⟩;obtain⟨x,y,rfl⟩:=List.append_of_mem hm;obtain⟨q',hq'⟩:=Wch.split e3;have hq'':=hq';obtain⟨_,_,_,f1,_⟩:=hq';rw[e1,<-f1]at h0;have:=congrArg List.length (h0.uniq hq'');simp at this;omega
theorem J_inj{G:Gh}{S:Sub}{m:Mc}{w:World}(i:Inv G S m w){a b c:Nat}(h1:G.J[a]? =some c)(h2:G.J[b]? =some c):a=b:=by
 obtain⟨l1,e1⟩:=List.getElem?_eq_some_iff.1 h1;obtain⟨l2,e2⟩:=List.getElem?_eq_some_iff.1 h2;exact(List.getElem_inj (h₀:=l1) (h₁:=l2) i.jn).1 (e1.trans e2.symm)
theorem qj4{G:Gh}{S:Sub}{m:Mc}{w:World}(i:Inv G S m w):∀{l:List Wn} {bs:List Nat} {x b:Nat},l.map (fun y=>G.J[y.id]?)=bs.map some->G.J[x]? =some b->(l.any (fun u=>u.id==x))=bs.contains b
 | [],[],_,_,_,_=>rfl
 | [],_::_,_,_,h,_=>by simp at h
 |_::_,[],_,_,h,_=>by simp at h
 |y::r,c::bs,x,b,h,hx=>by
  simp only[List.map_cons,List.cons.injEq]at h;have ih:=qj4 i h.2 hx;simp only[List.any_cons,ih,List.contains_cons];have key:(y.id==x)=(b==c):=by
   by_cases e:y.id=x
   ·have hbc:b=c:=by rw[<-e,h.1]at hx;cases hx;rfl
    rw[hbc,e];simp
   ·have hbc:b≠c:=fun e'=>e (J_inj i (by rw[h.1,e']) hx)
    rw[beq_eq_false_iff_ne.2 e,beq_eq_false_iff_ne.2 hbc]
  rw[key]
theorem WRep.at{G:Gh}:∀{l:List Wn} {p:Option Addr} (a:List Wn) (x:Wn) (b:List Wn),WRep G l p->l=a++x::b->∃q,WRep G (x::b) q
 |_,p,[],x,b,h,e=>by subst e;exact⟨p,h⟩
 |_,_,y::a,x,b,h,e=>by
  subst e;cases h with
  |cons id a' c r b' ba bc pd hj hb ha hc hr=>exact WRep.at a x b hr rfl
end
section
open Sc
theorem eg314:Eg 314:=qak func314 (by kernel_rfl) (by kernel_rfl)
theorem WRep.ptr_eq{G:Gh}{S:Sub}{m:Mc}{w:World}{a b:List Wn}{p q:Option Addr}(_i:Inv G S m w)(h:WRep G a p)(k:WRep G b q)(e:a.map (fun x=>G.J[x.id]?)=b.map (fun x=>G.J[x.id]?)):p=q:=by
 cases h with
 |nil=>
  cases k with
  |nil=>rfl
  |cons=>simp at e
 |cons id a' c r b1 ba bc pd hj hb ha hc hr=>
  cases k with
  |nil=>simp at e
  |cons id' a2 c2 r2 b2 ba2 bc2 pd2 hj2 hb2 ha2 hc2 hr2=>
   simp only[List.map_cons,List.cons.injEq,Wn.id]at e;rw[hj,hj2]at e;obtain⟨e1,_⟩:=e;cases e1;rfl
theorem qdx:∀{a b:List Nat},a.map some=b.map some->a=b
 | [],[],_=>rfl
 | [],_::_,h=>by simp at h
 |_::_,[],h=>by simp at h
 |x::a,y::b,h=>by
  simp only[List.map_cons,List.cons.injEq,Option.some.injEq]at h;rw[h.1,qdx h.2]
theorem qka{S:Sub}{n:Nat}(G:Gh)(m:Mc)(w:World)(to pre rest:List Wn)(y:Wn)(v:Vl)(k:List Fr)(tp:Option Addr)(q4 q5:Nat)(sl x u:Value)(i:Inv G S m w)(ht:WRep G to tp)(hto:to=pre++y::rest)(hrest:rest.map (fun x=>G.J[x.id]?)=m.wnd.map (fun x=>G.J[x.id]?))
  (h4:G.I q4=some (.cells #[u] 295 (0,0)))(h5:G.I q5=some (.cells #[sl] 184 (0,0)))(hr:RowI G 116 sl [x])(hv:VRep G v x)(hk:FRep G k u):
  Calls prog 313 #[bp G.mb,.pointer tp,.func (.func 314) #[] #[bp q4,bp q5]] w (Post G S n (applyTo S y.a [] [.into (y::rest) to v k] m).1 (applyTo S y.a [] [.into (y::rest) to v k] m).2):=by
 obtain⟨gv,wp,hma,hwp⟩:=i.ma;obtain⟨bt,ht1,ht2⟩:=ht.wch i;obtain⟨bw,hw1,hw2⟩:=hwp.wch i;have hm4:w.cell? ⟨G.mb,4,none⟩=some (.pointer wp):=by simp[World.cell?,hma]
 obtain⟨q,hq⟩:=WRep.at pre y rest ht hto;have hqq:=hq;cases hq with
 |cons id a c r b ba bc pd hj hb ha hc hrr=>
  have hpd:pd=wp:=hrr.ptr_eq i hwp hrest;subst hpd;obtain⟨bp',hbp1,hbp2⟩:∃pb,bt=pb++b::bw/\True:=by
   rw[hto,List.map_append,List.map_cons]at ht2;obtain⟨l1,l2,e1,e2,e3⟩:=List.map_eq_append_iff.1 ht2.symm;refine⟨l1,?_,trivial⟩;have e4:l2.map some=some b::bw.map some:=by
    rw[e3];show G.J[id]?::rest.map (fun x=>G.J[x.id]?)=_;rw[hj,hrest,hw2]
   have e5:l2=b::bw:=by
    have:l2.map some=(b::bw).map some:=by rw[e4];rfl
    exact qdx this
   rw[e1,e5]
  subst hbp1;have hne:tp≠pd:=fun e=>by
   rw[e]at ht1;have:=congrArg List.length (ht1.uniq hw1);simp at this;omega
  have i5:=i.alloc5 (.cells #[bp G.mb] 107) (.cells #[.pointer tp] 117) (.cells #[.func (.func 314) #[] #[bp q4,bp q5]] 297) (.cells #[.func (.func 351) #[] #[bp w.heap.size,bp (w.heap.size+1),bp (w.heap.size+2)]] 294) (.cells #[.pointer (some ⟨b,0,none⟩)] 117);have x5:=i.x5 (.cells #[bp G.mb] 107) (.cells #[.pointer tp] 117) (.cells #[.func (.func 314) #[] #[bp q4,bp q5]] 297) (.cells #[.func (.func 351) #[] #[bp w.heap.size,bp (w.heap.size+1),bp (w.heap.size+2)]] 294) (.cells #[.pointer (some ⟨b,0,none⟩)] 117);refine qir G.mb 314 b ba bc #[bp q4,bp q5] tp pd bp' bw w _ Post.ends hm4 hw1 ht1 hne ht1.nodup (i.imm hb) ?_;intro w' hw';have hap:=qbr (n:=n) _ m w' a [] [.into (.mk id a c::rest) to v k] (.iface 281 (bp ba)) none 0 0 353 _ (Inv.lk hw' i5) (.proc a ba (ha.mono x5.le)) (.inl ⟨rfl,none,0,rfl⟩)
   (.into (.mk id a c::rest) to v k [] (w.heap.size+4) w.heap.size (w.heap.size+3) (.func (.func 351) #[] #[bp w.heap.size,bp (w.heap.size+1),bp (w.heap.size+2)]) (some ⟨b,0,none⟩) (by exact Gh.add_at _ _ _)
    (by show _=some (Obj.cells #[bp G.mb] 107 (0,0));rw[qae _ (by omega),qae _ (by omega),qae _ (by omega),qae _ (by omega)];exact Gh.add_at _ _ _)
    (by rw[qae _ (by omega)];exact Gh.add_at _ _ _) (hqq.mono x5.le)
    (.back to v k [] w.heap.size (w.heap.size+1) (w.heap.size+2) q4 q5 sl x u tp
     (by show _=some (Obj.cells #[bp G.mb] 107 (0,0));rw[qae _ (by omega),qae _ (by omega),qae _ (by omega),qae _ (by omega)];exact Gh.add_at _ _ _)
     (by rw[qae _ (by omega),qae _ (by omega),qae _ (by omega)];exact Gh.add_at _ _ _)
     (by rw[qae _ (by omega),qae _ (by omega)];exact Gh.add_at _ _ _) (x5.le.I h4) (x5.le.I h5) (hr.mono x5.le) (hv.mono x5.le) (ht.mono x5.le) (hk.mono x5.le)))
  exact Calls.mono hap fun e w p=>p.up x5.up
theorem qdi{S:Sub}{n:Nat}(ihv:SimV S n)(G:Gh)(m:Mc)(w:World)(to:List Wn)(v:Vl)(k:List Fr)(tp:Option Addr)(q4 q5:Nat)(sl x u:Value)(i:Inv G S m w)(ht:WRep G to tp)
  (h4:G.I q4=some (.cells #[u] 295 (0,0)))(h5:G.I q5=some (.cells #[sl] 184 (0,0)))(hr:RowI G 116 sl [x])(hv:VRep G v x)(hk:FRep G k u)(he:Ct.ended (go S n (rewind S to v k m).1 (rewind S to v k m).2).1=true):
  Calls prog 313 #[bp G.mb,.pointer tp,.func (.func 314) #[] #[bp q4,bp q5]] w (Post G S n (rewind S to v k m).1 (rewind S to v k m).2):=by
 obtain⟨gv,wp,hma,hwp⟩:=i.ma;obtain⟨bt,ht1,ht2⟩:=ht.wch i;obtain⟨bw,hw1,hw2⟩:=hwp.wch i;have hm4:w.cell? ⟨G.mb,4,none⟩=some (.pointer wp):=by simp[World.cell?,hma]
 have htl:to.length=bt.length:=by have:=congrArg List.length ht2;simpa using this
 have hwl:m.wnd.length=bw.length:=by have:=congrArg List.length hw2;simpa using this
 by_cases hsame:tp=wp
 ·subst hsame;have hb:=ht1.uniq hw1;subst hb;have hret:rewind S to v k m=(.ret v k,m):=by
   have hen:rewind.enter S to v k m=(.ret v k,m):=by unfold rewind.enter;rw[if_pos (by omega)]
   unfold rewind;rcases hmw:m.wnd with _|⟨x0,ws⟩
   ·exact hen
   ·rw[hmw]at hw2;simp only;cases bt with
    |nil=>simp at hw2
    |cons b0 bs=>
     simp only[List.map_cons,List.cons.injEq]at hw2;have:=qj4 i ht2 hw2.1;rw[this];simp[hen]
  rw[hret]at he|-;obtain⟨ku,cu,rfl,egu⟩:=hk.isF;obtain⟨g,o,cap,arr,rfl,hg,hc1,hc2,hrow⟩:=hr;obtain⟨t,y,rfl⟩:=hv.form;refine qip G.mb 314 #[bp q4,bp q5] tp w _ eg314 Post.ends hm4 ht1.ptr ?_;intro w' hw';have i3:=Inv.lk hw' (i.below (((((Below.refl _ _).alloc (Nat.le_refl _) _).alloc (by simp) _).alloc (by simp;omega) _)));refine cont11 q4 q5 ku g o cap t y cu w' _ egu Post.ends (by rw[i3.cell h4];rfl) (by rw[i3.cell h5];rfl) (by rw[i3.cell hg];exact hrow 0 _ rfl) ?_;intro w'' hw'';exact ihv G m w'' v k _ ku cu (Inv.lk hw'' i3) hv hk he
 ·rcases hmw:m.wnd with _|⟨x0,ws⟩
  ·
   have hne:to≠[]:=fun e=>by
    subst e;cases ht;rw[hmw]at hwp;cases hwp;exact hsame rfl
   obtain⟨pre,y,hto⟩:∃pre y,to=pre++[y]:=⟨to.dropLast,to.getLast hne,(List.dropLast_concat_getLast hne).symm⟩;have hrw:rewind S to v k m=applyTo S y.a [] [.into [y] to v k] m:=by
    unfold rewind;rw[hmw];simp only;unfold rewind.enter;have hl:to.length=pre.length+1:=by rw[hto];simp
    rw[hmw,if_neg (by simp;omega)];have hdr:to.drop (to.length-([]:List Wn).length-1)=[y]:=by rw[hl];simp[hto]
    rw[hdr]
   rw[hrw];exact qka G m w to pre [] y v k tp q4 q5 sl x u i ht hto (by rw[hmw]) h4 h5 hr hv hk
  ·rw[hmw]at hw2 hwp;cases bw with
   |nil=>simp at hw2
   |cons b0 bs=>
    simp only[List.map_cons,List.cons.injEq]at hw2;have hany:=qj4 i ht2 hw2.1;by_cases hmem:b0∈bt
    ·
     obtain⟨p1,p2,hsp⟩:=List.append_of_mem hmem;obtain⟨l1,l2,e1,e2,e3⟩:=List.map_eq_append_iff.1 (show to.map (fun x=>G.J[x.id]?)=p1.map some++(b0::p2).map some by rw[ht2,hsp];simp);have hq:∃q,Wch w (b0::p2) q:=by rw[hsp]at ht1;exact ht1.split
     obtain⟨q,hq⟩:=hq;have hbp:b0::p2=b0::bs:=by
      have hqp:q=wp:=by
       obtain⟨_,_,_,f1,_⟩:=hq;obtain⟨_,_,_,f2,_⟩:=hw1;rw[f1,f2]
      rw[hqp]at hq;exact hq.uniq hw1
     have hl2:l2.map (fun x=>G.J[x.id]?)=m.wnd.map (fun x=>G.J[x.id]?):=by
      rw[e3,hbp,hmw];show some b0::bs.map some=G.J[x0.id]?::ws.map (fun x=>G.J[x.id]?);rw[hw2.1,hw2.2]
     have hl1:l1≠[]:=fun e=>by
      subst e;have:p1=[]:=by cases p1 with|nil=>rfl|cons=>simp at e2
      subst this;simp at hsp;rw[hsp,hbp]at ht1;obtain⟨_,_,_,f1,_⟩:=ht1;obtain⟨_,_,_,f2,_⟩:=hw1;exact hsame (f1.trans f2.symm)
     obtain⟨pre,y,hpre⟩:∃pre y,l1=pre++[y]:=⟨l1.dropLast,l1.getLast hl1,(List.dropLast_concat_getLast hl1).symm⟩;have hto:to=pre++y::l2:=by rw[e1,hpre];simp
     have hlen:l2.length=m.wnd.length:=by have:=congrArg List.length hl2;simpa using this
     have hrw:rewind S to v k m=applyTo S y.a [] [.into (y::l2) to v k] m:=by
      have hen:rewind.enter S to v k m=applyTo S y.a [] [.into (y::l2) to v k] m:=by
       unfold rewind.enter;have hl:to.length=pre.length+1+l2.length:=by rw[hto];simp;omega
       rw[if_neg (by omega)];have hdr:to.drop (to.length-m.wnd.length-1)=y::l2:=by
        rw[show to.length-m.wnd.length-1=pre.length from by omega,hto];simp
       rw[hdr]
      unfold rewind;rw[hmw];simp only;rw[hany,if_pos (by simpa using hmem)];exact hen
     rw[hrw];exact qka G m w to pre l2 y v k tp q4 q5 sl x u i ht hto hl2 h4 h5 hr hv hk
    ·
     cases hwp with
     |cons id a c r b ba bc pd hj hb ha hc hrr=>
      have hbb:b=b0:=by have:=hw2.1;rw[show G.J[(Wn.mk id a c).id]? =some b from hj]at this;cases this;rfl
      subst hbb;have hrw:rewind S to v k m=applyTo S c [] [.back to v k] {m with wnd:=ws}:=by
       unfold rewind;rw[hmw];simp only;rw[hany,if_neg (by simpa using hmem)];rfl
      rw[hrw];have iw:=i.winders ws pd hrr;have i4:=iw.alloc4 (.cells #[bp G.mb] 107) (.cells #[.pointer tp] 117) (.cells #[.func (.func 314) #[] #[bp q4,bp q5]] 297) (.cells #[.func (.func 351) #[] #[bp w.heap.size,bp (w.heap.size+1),bp (w.heap.size+2)]] 294);have x4:=iw.x4 (.cells #[bp G.mb] 107) (.cells #[.pointer tp] 117) (.cells #[.func (.func 314) #[] #[bp q4,bp q5]] 297) (.cells #[.func (.func 351) #[] #[bp w.heap.size,bp (w.heap.size+1),bp (w.heap.size+2)]] 294);rw[qaf]at i4 x4;refine qiq G.mb 314 b ba bc #[bp q4,bp q5] tp pd bt w _ Post.ends hm4 (i.mbf 4) (i.imm hb) (i.ne hb i.m1) ht1 hmem ?_;intro w' hw';have hap:=qbr (n:=n) _ {m with wnd:=ws} w' c [] [.back to v k] (.iface 281 (bp bc)) none 0 0 351 _ (Inv.lk hw' i4) (.proc c bc (hc.mono x4.le)) (.inl ⟨rfl,none,0,rfl⟩)
       (.back to v k [] w.heap.size (w.heap.size+1) (w.heap.size+2) q4 q5 sl x u tp
        (by show _=some (Obj.cells #[bp G.mb] 107 (0,0));rw[qae _ (by omega),qae _ (by omega),qae _ (by omega)];exact Gh.add_at _ _ _)
        (by rw[qae _ (by omega),qae _ (by omega)];exact Gh.add_at _ _ _)
        (by rw[qae _ (by omega)];exact Gh.add_at _ _ _) (x4.le.I h4) (x4.le.I h5) (hr.mono x4.le) (hv.mono x4.le) (ht.mono x4.le) (hk.mono x4.le))
      exact Calls.mono hap fun e w p=>p.up x4.up
end
section
open Sc
section
variable {S:Sub} {n:Nat} {G:Gh} {m:Mc} {w:World} {v:Vl} {x:Value} {k:List Fr}
theorem Inv.mb4(i:Inv G S m w):∃wp,w.cell? ⟨G.mb,4,Option.none⟩=some (.pointer wp)/\WRep G m.wnd wp:=by obtain⟨gv,wp,h,hw⟩:=i.ma;exact⟨wp,by simp[World.cell?,h],hw⟩
theorem qn3(ihv:SimV S n)(i:Inv G S m w){v0:Vl}{q1 q2:Nat}{x0 u:Value}(h1:G.I q1=some (.cells #[u] 295 (0,0)))(h2:G.I q2=some (.cells #[x0] 116 (0,0)))(hv0:VRep G v0 x0)(hk:FRep G k u)(he:Ct.ended (go S (n+1) (.ret v (.wind3 v0::k)) m).1=true):
  Calls prog 317 (#[x]++#[bp q1,bp q2]) w (Post G S (n+1) (.ret v (.wind3 v0::k)) m):=by
 obtain⟨ku,cu,rfl,egu⟩:=hk.isF;obtain⟨t,y,rfl⟩:=hv0.form;have hnx:Sc.next S (.ret v (.wind3 v0::k)) m=(.ret v0 k,m):=rfl;rw[qan hnx rfl]at he;refine qqk q1 q2 ku t x y cu w _ egu Post.ends (by rw[i.cell h1];rfl) (by rw[i.cell h2];rfl) ?_;intro w' hw;exact Calls.mono (ihv G m w' v0 k _ ku cu (Inv.lk hw i) hv0 hk he) fun e w p=>Post.step hnx rfl (Gh.up.refl G) p
theorem qn4(i:Inv G S m w)(hv:VRep G v x){c:Vl}{ws:List Wn}{q1 q2 q3 q4 bc:Nat}{u:Value}{wp:Option Addr}(h1:G.I q1=some (.cells #[.pointer wp] 117 (0,0)))(h2:G.mbox q2)(h3:G.I q3=some (.cells #[bp bc] 281 (0,0)))(h4:G.I q4=some (.cells #[u] 295 (0,0)))
  (hw:WRep G ws wp)(hc:QRep G c bc)(hk:FRep G k u):
  Calls prog 316 (#[x]++#[bp q1,bp q2,bp q3,bp q4]) w (Post G S (n+1) (.ret v (.wind2 c ws::k)) m):=by
 obtain⟨t,y,rfl⟩:=hv.form;obtain⟨wp0,hm4,_⟩:=i.mb4;have hnx:Sc.next S (.ret v (.wind2 c ws::k)) m=applyTo S c [] (.wind3 v::k) {m with wnd:=ws}:=rfl;have iw:=i.winders ws wp hw;have i1:=iw.alloc (.cells #[.iface t y] 116);have x1:=iw.x1 (.cells #[.iface t y] 116);rw[qaf]at i1 x1;refine qql q1 q2 q3 q4 G.mb bc t y y wp w _ Post.ends (by rw[i.cell h1];rfl) (by rw[i.cell h2];rfl) (by rw[i.cell h3];rfl) ⟨_,hm4⟩ (i.mbf 4) (i.ne h2 i.m1) (i.ne h3 i.m1) ?_;intro w' hw';have hap:=qbr (n:=n) _ {m with wnd:=ws} w' c [] (.wind3 v::k) (.iface 281 (bp bc)) none 0 0 317 _ (Inv.lk hw' i1) (.proc c bc (hc.mono x1.le)) (.inl ⟨rfl,none,0,rfl⟩)
  (.wind3 v k q4 w.heap.size (.iface t y) u (x1.le.I h4) (by exact Gh.add_at _ _ _) (hv.mono x1.le) (hk.mono x1.le))
 exact Calls.mono hap fun e w p=>Post.step hnx rfl x1.up p
theorem qn5(i:Inv G S m w){a b c:Vl}{q1 q2 q3 q4 q5 ba bb bc:Nat}{u:Value}(h1:G.mbox q1)(h2:G.I q2=some (.cells #[bp ba] 281 (0,0)))(h3:G.I q3=some (.cells #[bp bc] 281 (0,0)))(h4:G.I q4=some (.cells #[bp bb] 281 (0,0)))(h5:G.I q5=some (.cells #[u] 295 (0,0)))
  (ha:QRep G a ba)(hb:QRep G b bb)(hc:QRep G c bc)(hk:FRep G k u):
  Calls prog 315 (#[x]++#[bp q1,bp q2,bp q3,bp q4,bp q5]) w (Post G S (n+1) (.ret v (.wind1 a b c::k)) m):=by
 obtain⟨wp,hm4,hwp⟩:=i.mb4;have hnx:Sc.next S (.ret v (.wind1 a b c::k)) m=applyTo S b [] (.wind2 c m.wnd::k) {m with wnd:=.mk m.ids a c::m.wnd,ids:=m.ids+1}:=rfl;have i1:=i.alloc (.cells #[.pointer wp] 117);have x1:=i.x1 (.cells #[.pointer wp] 117);have i2:=i1.newObj (.cells #[bp ba,bp bc,.pointer wp] 393);have x2:=i1.ext_newObj (.cells #[bp ba,bp bc,.pointer wp] 393);have a2:=i1.at_newObj (.cells #[bp ba,bp bc,.pointer wp] 393);have hz:(w.alloc (.cells #[.pointer wp] 117)).heap.size=w.heap.size+1:=by simp
 rw[hz]at i2 x2 a2;have L:=x1.le.trans x2.le;have hwn:WRep ((((G.add w.heap.size (.cells #[.pointer wp] 117)).add (w.heap.size+1) (.cells #[bp ba,bp bc,.pointer wp] 393)).id (w.heap.size+1))) (.mk m.ids a c::m.wnd) (some ⟨w.heap.size+1,0,none⟩):=
  .cons m.ids a c m.wnd (w.heap.size+1) ba bc wp a2 (by exact Gh.add_at _ _ _) (ha.mono L) (hc.mono L) (hwp.mono L)
 have i3:=i2.winders (.mk m.ids a c::m.wnd) (some ⟨w.heap.size+1,0,none⟩) hwn;have hml:=qac hm4;refine qqm q1 q2 q3 q4 q5 G.mb ba bb bc x wp w _ Post.ends (by rw[i.cell h1];rfl) (by rw[i.cell h2];rfl) (by rw[i.cell h3];rfl) (by rw[i.cell h4];rfl) hm4 (i.mbf 4) (i.ne h1 i.m1) (i.ne h4 i.m1) ?_;intro w' hw';have hheap:w'.heap=(((w.alloc (.cells #[.pointer wp] 117)).alloc (.cells #[bp ba,bp bc,.pointer wp] 393)).setCell ⟨G.mb,4,none⟩ (.pointer (some ⟨w.heap.size+1,0,none⟩))).heap:=by
  rw[hw'.heap,qbk _ _ _ (by simp;omega)];exact qay _ (qbk _ _ _ hml).symm
 have i3':=Inv.lk (w':=w') ⟨hheap,hw'.tape,hw'.os,hw'.output⟩ i3;have hap:=qbr (n:=n) _ _ w' b [] (.wind2 c m.wnd::k) (.iface 281 (bp bb)) none 0 0 316 _ i3' (.proc b bb (hb.mono L)) (.inl ⟨rfl,none,0,rfl⟩)
  (.wind2 c m.wnd k w.heap.size q1 q3 q5 bc u wp (x2.le.I (Gh.add_at _ _ _)) (L.mbox h1) (L.I h3) (L.I h5) (hwp.mono L) (hc.mono L) (hk.mono L))
 exact Calls.mono hap fun e w p=>Post.step hnx rfl (x1.up.trans x2.up) p
theorem qri(ihv:SimV S n)(i:Inv G S m w){ws:List Wn}{v0:Vl}{r:List Fr}{q1 q2 q3 q4 q5:Nat}{sl x0 u:Value}{wp:Option Addr}(h1:G.mbox q1)(h2:G.I q2=some (.cells #[.pointer wp] 117 (0,0)))(h3:G.I q3=some (.cells #[.func (.func 314) #[] #[bp q4,bp q5]] 297 (0,0)))
  (h4:G.I q4=some (.cells #[u] 295 (0,0)))(h5:G.I q5=some (.cells #[sl] 184 (0,0)))(hr:RowI G 116 sl [x0])(hv0:VRep G v0 x0)(hw:WRep G ws wp)(hk:FRep G k u)(he:Ct.ended (go S (n+1) (.ret v (.back ws v0 k::r)) m).1=true):
  Calls prog 351 (#[x]++#[bp q1,bp q2,bp q3]) w (Post G S (n+1) (.ret v (.back ws v0 k::r)) m):=by
 have hnx:Sc.next S (.ret v (.back ws v0 k::r)) m=rewind S ws v0 k m:=rfl;rw[qan hnx rfl]at he;refine qp9 q1 q2 q3 G.mb x (.func (.func 314) #[] #[bp q4,bp q5]) wp 314 #[bp q4,bp q5] w _ Post.ends rfl (by rw[i.cell h1];rfl) (by rw[i.cell h2];rfl) (by rw[i.cell h3];rfl) ?_;intro w' hw';exact Calls.mono (qdi ihv G m w' ws v0 k wp q4 q5 sl x0 u (Inv.lk hw' i) hw h4 h5 hr hv0 hk he) fun e w p=>Post.step hnx rfl (Gh.up.refl G) p
end
end
section
open Sc
section
variable {S:Sub} {n:Nat} {G:Gh} {m:Mc} {w:World} {v:Vl} {x:Value} {k:List Fr}
theorem qrg(ihv:SimV S n)(i:Inv G S m w)(hv:VRep G v x){now ws:List Wn}{v0:Vl}{r:List Fr}{q1 q2 q3:Nat}{y:Value}{np:Option Addr}(h1:G.I q1=some (.cells #[.pointer np] 117 (0,0)))(h2:G.mbox q2)(h3:G.I q3=some (.cells #[y] 294 (0,0)))
  (hnow:WRep G now np)(hy:FRep G (.back ws v0 k::r) y)(he:Ct.ended (go S (n+1) (.ret v (.into now ws v0 k::r)) m).1=true):
  Calls prog 353 (#[x]++#[bp q1,bp q2,bp q3]) w (Post G S (n+1) (.ret v (.into now ws v0 k::r)) m):=by
 obtain⟨t,z,rfl⟩:=hv.form;obtain⟨wp0,hm4,_⟩:=i.mb4;have hnx:Sc.next S (.ret v (.into now ws v0 k::r)) m=rewind S ws v0 k {m with wnd:=now}:=rfl;rw[qan hnx rfl]at he;have iw:=i.winders now np hnow;cases hy with
 |back ws v0 k r p1 p2 p3 p4 p5 sl x0 u wp g1 g2 g3 g4 g5 hr hv0 hw hk=>
  refine into_go q1 q2 q3 G.mb 351 t z np #[bp p1,bp p2,bp p3] w _ eg351 Post.ends (by rw[i.cell h1];rfl) (by rw[i.cell h2];rfl) (by rw[i.cell h3];rfl) ⟨_,hm4⟩ (i.mbf 4) (i.ne h3 i.m1) ?_;intro w' hw';have i':=Inv.lk hw' iw;refine qp9 p1 p2 p3 G.mb (.iface t z) (.func (.func 314) #[] #[bp p4,bp p5]) wp 314 #[bp p4,bp p5] w' _ Post.ends rfl (by rw[i'.cell g1];rfl) (by rw[i'.cell g2];rfl) (by rw[i'.cell g3];rfl) ?_;intro w'' hw'';exact Calls.mono (qdi ihv G {m with wnd:=now} w'' ws v0 k wp p4 p5 sl x0 u (Inv.lk hw'' i') hw g4 g5 hr hv0 hk he) fun e w p=>Post.step hnx rfl (Gh.up.refl G) p
end
theorem sim_ret{S:Sub}{n:Nat}(ihe:SimE S n)(ihv:SimV S n):SimV S (n+1):=by
 intro G m w v k x ku cu i hv hk he;cases hk with
 |nil q h=>exact ret_nil i hv h
 |ite sh t e env k q1 q2 q3 q4 xe xt u pf h1 h2 h3 h4 ht hel hn hs hk=>exact ret_ite ihe ihv i hv h1 h2 h3 h4 ht hel hn hs hk he
 |set sh t env k q1 q2 q3 xs u pf h1 h2 h3 ht hn hs hk=>exact ret_set ihv i hv h1 h2 h3 ht hn hs hk he
 |body sh l env k q1 q2 q3 xl u pf h1 h2 h3 hl hn hs hk=>exact qrh ihe i h1 h2 h3 hl hn hs hk he
 |app sh vs l env k q1 q2 q3 q4 q5 q6 q7 sl x0 u xs pf pd h1 h2 h3 h4 h5 h6 h7 hb hr hx hc hn hs hk=>exact ret_app ihe i hv h1 h2 h3 h4 h5 h6 h7 hb hr hx hc hn hs hk he
 |wind1 a b c k q1 q2 q3 q4 q5 ba bb bc u h1 h2 h3 h4 h5 ha hb hc hk=>exact qn5 i h1 h2 h3 h4 h5 ha hb hc hk
 |wind2 c ws k q1 q2 q3 q4 bc u wp h1 h2 h3 h4 hw hc hk=>exact qn4 i hv h1 h2 h3 h4 hw hc hk
 |wind3 v0 k q1 q2 x0 u h1 h2 hv0 hk=>exact qn3 ihv i h1 h2 hv0 hk he
 |back ws v0 k r q1 q2 q3 q4 q5 sl x0 u wp h1 h2 h3 h4 h5 hr hv0 hw hk=>exact qri ihv i h1 h2 h3 h4 h5 hr hv0 hw hk he
 |into now ws v0 k r q1 q2 q3 y np h1 h2 h3 hnow hy=>exact qrg ihv i hv h1 h2 h3 hnow hy he
theorem qav(S:Sub):∀n,SimE S n/\SimV S n
 |0=>⟨fun G m w sh e env k kx ku cx cu pf _ _ _ _ _ he=>by simp[go,Ct.ended]at he,fun G m w v k x ku cu _ _ _ he=>by simp[go,Ct.ended]at he⟩
 |n+1=>⟨sim_ev (qav S n).1 (qav S n).2,sim_ret (qav S n).1 (qav S n).2⟩
end
section
open Sc
theorem qs5(q1 q2 q3 mb sc:Nat)(sa wp:Option Addr)(uu:Value)(w:World)(Q:Ending->World->Prop)(hQ:∀e w,Q e w->(∃v,e=.returned v)\/(∃ps,e=.panicked ps))
  (h1:w.cell? ⟨q1,0,none⟩=some (.pointer (some ⟨mb,0,none⟩)))(h2:w.cell? ⟨q2,0,none⟩=some (.pointer wp))
  (hK:∀w',Lk (w.alloc (.cells #[.slice sa 1 sc] 184)) w'->Calls prog 313 #[.pointer (some ⟨mb,0,none⟩),.pointer wp,.func (.func 314) #[] #[.pointer (some ⟨q3,0,none⟩),.pointer (some ⟨w.heap.size,0,none⟩)]] w' Q):
  Calls prog 312 #[.slice sa 1 sc,uu,.pointer (some ⟨q1,0,none⟩),.pointer (some ⟨q2,0,none⟩),.pointer (some ⟨q3,0,none⟩)] w Q:=by
 have HK:=hZ hK;have HQ:=hZ hQ;have k1:∀o,(w.alloc o).cell? ⟨q1,0,none⟩=some (.pointer (some ⟨mb,0,none⟩)):=fun o=>(qad (qac h1) o).trans h1
 have k2:∀o,(w.alloc o).cell? ⟨q2,0,none⟩=some (.pointer wp):=fun o=>(qad (qac h2) o).trans h2
 clear hK hQ;go_enter func312,ntmps312
 go_wp2_with (go_at_call 273;refine(qbi _ _).mono ?_;rintro e w2 ⟨rfl,hww⟩;obtain rfl:=hww.symm)
 go_wp2_with (go_at_call 313;refine(HK.out _ (by exact⟨rfl,rfl,rfl,rfl⟩)).mono ?_;intro e w3 hq)
 all_goals first|exact hq|exact⟨rfl,hq⟩|(rcases HQ.out _ _ hq with⟨v,h⟩|⟨ps,h⟩ <;> cases h)
theorem qpz(q1 q2 q3 n sc:Nat)(sa:Option Addr)(uu:Value)(w:World)(hn:n≠1):
  Calls prog 312 #[.slice sa n sc,uu,.pointer (some ⟨q1,0,none⟩),.pointer (some ⟨q2,0,none⟩),.pointer (some ⟨q3,0,none⟩)] w fun e w'=>e=.panicked (stopP (stopV 7))/\Below w.heap.size w w':=by
 have hee:((n:Int)==1)=false:=by simp;omega
 go_enter func312,ntmps312
 go_wp2_with (go_at_call 273;refine(qbh _ _).mono ?_;rintro e w2 ⟨rfl,o,rfl⟩)
 exact⟨rfl,rfl,((Below.refl _ _).alloc (Nat.le_refl _) _).alloc (by simp) _⟩
end
section
open Sc
def PostS(G:Gh)(S:Sub)(n:Nat)(c:Ct)(m:Mc)(e:Ending)(w:World):Prop:=∃j c' m',j<n/\go S n c m=go S j c' m'/\Out G S c' m' e w
theorem PostS.post{G:Gh}{S:Sub}{n:Nat}{c:Ct}{m:Mc}{e:Ending}{w:World}(p:PostS G S n c m e w):Post G S n c m e w:=by
 obtain⟨j,c',m',h1,h2,h3⟩:=p;exact⟨j,c',m',Nat.le_of_lt h1,h2,h3⟩
theorem PostS.ends{G:Gh}{S:Sub}{n:Nat}{c:Ct}{m:Mc}:∀e w,PostS G S n c m e w->(∃v,e=.returned v)\/(∃ps,e=.panicked ps):=fun e w p=>Post.ends e w p.post
theorem PostS.cell{G:Gh}{S:Sub}{n:Nat}{c:Ct}{m:Mc}{v:Value}{w:World}(h:PostS G S n c m (.returned v) w){b:Nat}{x:Value}{t:Nat}(hb:G.I b=some (.cells #[x] t (0,0))):w.cell? ⟨b,0,none⟩=some x:=h.post.cell hb
theorem Post.stepS{G H:Gh}{S:Sub}{n:Nat}{c c1:Ct}{m m1:Mc}{e:Ending}{w:World}(hn:Sc.next S c m=(c1,m1))(hc:Ct.ended c=false)(hu:G.up H)(p:Post H S n c1 m1 e w):PostS G S (n+1) c m e w:=by
 obtain⟨j,c',m',h1,h2,h3⟩:=p;exact⟨j,c',m',by omega,by rw[qan hn hc];exact h2,h3.up hu⟩
theorem qjz{S:Sub}{n:Nat}(ihe:SimE S n)(G:Gh)(m:Mc)(w:World)(id N:Nat)(l:List Ex)(env:Option Nat)(al:List Vl)(k:List Fr)(sh:List Nat)(q1 q2 q3 ku:Nat)(cu:Array Value)(xl xb:Value)(pf sa:Option Addr)(sn sc:Nat)
  (i:Inv G S m w)(h1:G.I q1=some (.cells #[xl] 241 (0,0)))(h2:G.I q2=some (.cells #[xb] 440 (0,0)))(h3:G.I q3=some (.cells #[.pointer pf] 378 (0,0)))(hl:SRep G (N::sh) l xl)(hx:BRep G N false xb)(hn:NRep G env pf)(hs:Sh G sh pf)(hk:FRep G k (.func (.func ku) #[] cu))
  (hr:LRow G w.heap (.slice sa sn sc) al)(he:Ct.ended (go S (n+1) (.ap (.lam id N false l env) al k) m).1=true):
  Calls prog 383 (#[.slice sa sn sc,.func (.func ku) #[] cu]++#[bp q1,bp q2,bp q3]) w (PostS G S (n+1) (.ap (.lam id N false l env) al k) m):=by
 obtain⟨k1,c1,rfl,eg1⟩:=hl.isF;have hsn:sn=al.length:=by
  rcases hr with⟨rfl,a,cap,h⟩|⟨g,o,cap,arr,h,_⟩
  ·cases h;rfl
  ·cases h;rfl
 subst hsn;cases hx with
 |num N p1 p2 hp1 hp2=>
  have hcl:(m.cells:Int)<=S.quota:=i.cl.1;refine qkn q1 q2 q3 k1 363 ku c1 #[bp p1,bp p2] cu sa pf al.length sc w _ eg1 eg363 PostS.ends (fun v w' p=>⟨p.cell h1,p.cell h2,p.cell h3⟩) (by rw[i.cell h1];rfl) (by rw[i.cell h2];rfl) (by rw[i.cell h3];rfl) ?_;intro w0 hw0;have i0:=Inv.lk hw0 i;have d1:w0.cell? ⟨p1,0,none⟩=some (.int .i64 (N:Int)):=by rw[i0.cell hp1];rfl
  have d2:w0.cell? ⟨p2,0,none⟩=some (.pointer (some ⟨G.mb,0,none⟩)):=by rw[i0.cell hp2];rfl
  by_cases hN:al.length=N
  ·subst hN;by_cases hce:(m.cells:Int)+al.length<=S.quota
   ·have hnx:Sc.next S (.ap (.lam id al.length false l env) al k) m=(bodyOf l (some m.envs.length) k,{m with cells:=m.cells+al.length,envs:=m.envs++[(al,env)]}):=by
     simp only[Sc.next,carry,ne_eq,not_true_eq_false,if_false,Bool.false_eq_true];rw[cellsN_ok _ hce]
    rw[qan hnx rfl]at he;refine Calls.mono (qtb p1 p2 G.mb G.cb al.length sc sa m.cells S.quota w0 d1 d2 i0.mb1 i0.ce (by omega) hce (by have:=i.cl.2;omega)) ?_;rintro e w1 ⟨rfl,hw1⟩;left;have ic:=i0.cells (m.cells+al.length) (by push_cast;exact hce);have ic:Inv G S {m with cells:=m.cells+al.length} w1:=Inv.lk hw1 (by simpa using ic);refine⟨sa,al.length,sc,rfl,⟨by rw[ic.cell h1];rfl,by rw[ic.cell h2];rfl,by rw[ic.cell h3];rfl⟩,?_⟩;intro w2 hw2;have ia:=ic.alloc (.cells #[.slice sa al.length sc,.pointer pf] 461);have xa:=ic.x1 (.cells #[.slice sa al.length sc,.pointer pf] 461);have ia':=Inv.lk hw2 ia;have hrow:LRow (G.add w1.heap.size (.cells #[.slice sa al.length sc,.pointer pf] 461)) w2.heap (.slice sa al.length sc) al:=by
     rcases hr with⟨r1,r2⟩|⟨g,o,cap,arr,r1,r2,r3,r4,r5,r6,r7,r8,r9⟩
     ·exact .inl ⟨r1,r2⟩
     ·have hgl:g<w.heap.size:=(Array.getElem?_eq_some_iff.1 r5).1;have hz1:w1.heap.size=w.heap.size:=by rw[hw1.heap,qaf,hw0.heap]
      have hgc:g≠G.cb:=fun e=>r6 (e▸i.m3)
      refine .inr ⟨g,o,cap,arr,r1,r2,r3,r4,?_,by rw[xa.mut];exact r6,by rw[xa.I (by omega)];exact r7,by rw[xa.F];exact r8,fun q u hu=>by obtain⟨z,z1,z2⟩:=r9 q u hu;exact⟨z,z1,z2.mono xa.le⟩⟩;rw[hw2.heap,Below.heap_alloc _ _ _ (by omega),hw1.heap,qaa (a:=⟨G.cb,0,none⟩) g hgc,hw0.heap];exact r5
    have ie:=ia'.pushEnv (Gh.add_at _ _ _) (hn.mono xa.le) hrow;have L:=xa.le.trans (Gh.le_env (G.add w1.heap.size (.cells #[.slice sa al.length sc,.pointer pf] 461)) w1.heap.size (.slice sa al.length sc));have hnr:NRep ((G.add w1.heap.size (.cells #[.slice sa al.length sc,.pointer pf] 461)).env w1.heap.size (.slice sa al.length sc)) (some m.envs.length) (some ⟨w1.heap.size,0,none⟩):=
     .some _ _ (.slice sa al.length sc) (by show(G.E++[_])[m.envs.length]? =_;rw[show m.envs.length=G.E.length from i.el.symm];simp)
    exact Calls.mono (qd2 ihe _ _ w2 (al.length::sh) l (some m.envs.length) k k1 ku c1 cu _ ie (hl.mono L) hnr (.cons al.length sh _ sa sc pf (Gh.add_at _ _ _) (hs.mono L)) (hk.mono L) he) fun e w p=>Post.stepS hnx rfl ⟨L,rfl,rfl⟩ p
   ·have hnx:Sc.next S (.ap (.lam id al.length false l env) al k) m=(.stop 11,{m with cells:=S.quota.toNat}):=by
     simp only[Sc.next,carry,ne_eq,not_true_eq_false,if_false,Bool.false_eq_true];rw[qb7 _ hcl (by omega)]
    refine Calls.mono (qp7 p1 p2 G.mb G.cb al.length sc sa m.cells S.quota w0 d1 d2 i0.mb1 i0.ce (by omega) (by omega) hcl (by have:=i.cl.2;omega)) ?_;rintro e w1 ⟨rfl,hb⟩;have hq:((S.quota.toNat:Nat):Int)=S.quota:=Int.toNat_of_nonneg (by have:(0:Int)<=(m.cells:Int):=Int.natCast_nonneg _;omega);have i1:=i0.cells S.quota.toNat (by omega);rw[hq]at i1;exact .inr ⟨⟨_,rfl⟩,Post.stepS hnx rfl (Gh.up.refl G) (Post.now (.stop 11 _ _ (i1.cntB (by rw[qaf];exact Nat.le_refl _) hb)))⟩
  ·have hnx:Sc.next S (.ap (.lam id N false l env) al k) m=(.stop 7,m):=by
    simp[Sc.next,carry,hN]
   refine Calls.mono (qp8 p1 p2 N al.length sc sa w0 d1 hN) ?_;rintro e w1 ⟨rfl,o,rfl⟩;exact .inr ⟨⟨_,rfl⟩,Post.stepS hnx rfl (Gh.up.refl G) (Post.now (.stop 7 _ _ (i0.cntB (Nat.le_refl _) ((Below.refl _ _).alloc (Nat.le_refl _) _))))⟩
theorem qjy{S:Sub}{n:Nat}(ihe:SimE S n)(G:Gh)(m:Mc)(w:World)(id N:Nat)(l:List Ex)(env:Option Nat)(al:List Vl)(k:List Fr)(sh:List Nat)(q1 q2 q3 ku:Nat)(cu:Array Value)(xl xb:Value)(pf sa:Option Addr)(sn sc:Nat)
  (i:Inv G S m w)(h1:G.I q1=some (.cells #[xl] 241 (0,0)))(h2:G.I q2=some (.cells #[xb] 440 (0,0)))(h3:G.I q3=some (.cells #[.pointer pf] 378 (0,0)))(hl:SRep G (N::sh) l xl)(hx:BRep G N true xb)(hn:NRep G env pf)(hs:Sh G sh pf)(hk:FRep G k (.func (.func ku) #[] cu))
  (hr:LRow G w.heap (.slice sa sn sc) al)(he:Ct.ended (go S (n+1) (.ap (.lam id N true l env) al k) m).1=true):
  Calls prog 383 (#[.slice sa sn sc,.func (.func ku) #[] cu]++#[bp q1,bp q2,bp q3]) w (PostS G S (n+1) (.ap (.lam id N true l env) al k) m):=by
 obtain⟨k1,c1,rfl,eg1⟩:=hl.isF;obtain⟨xs,hv,hxl,hal,hrow,hgm,hx6⟩:=hr.vals;cases hx with
 |rest q hq=>
  have hcl:(m.cells:Int)<=S.quota:=i.cl.1;refine qkn q1 q2 q3 k1 358 ku c1 #[bp q] cu sa pf sn sc w _ eg1 eg358 PostS.ends (fun v w' p=>⟨p.cell h1,p.cell h2,p.cell h3⟩) (by rw[i.cell h1];rfl) (by rw[i.cell h2];rfl) (by rw[i.cell h3];rfl) ?_;intro w0 hw0;have i0:=Inv.lk hw0 i;by_cases hce:(m.cells:Int)+(1+(al.length:Int))<=S.quota
  ·have hnx:Sc.next S (.ap (.lam id 1 true l env) al k) m=(bodyOf l (some (mkList {m with cells:=m.cells+(1+al.length)} al .nil).2.envs.length) k,{(mkList {m with cells:=m.cells+(1+al.length)} al .nil).2 with envs:=(mkList {m with cells:=m.cells+(1+al.length)} al .nil).2.envs++[([(mkList {m with cells:=m.cells+(1+al.length)} al .nil).1],env)]}):=by
    simp only[Sc.next,carry,if_true];rw[cellsN_ok (1+al.length) (by push_cast;exact hce)]
   rw[qan hnx rfl]at he;have hb:=qta G S m w0 q sn sc sa al xs i0 hq hv hxl (by
    rcases hrow with h|⟨g,o,e1,e2⟩
    ·exact .inl h
    ·exact .inr ⟨g,o,e1,fun j hj=>by simp only[World.cell?,hw0.heap];exact e2 j hj⟩) (fun g o e1 e2 e3=>hgm g o e1 e2 (e3▸i.m3)) (by omega) (by rw[hal];exact hce)
   refine Calls.mono hb ?_;rintro e w1 ⟨H,B,x,rfl,hH,hi,hvx,hB,hBs,hBi⟩;rw[hal]at hi hvx;left;have hz0:w0.heap.size=w.heap.size:=by rw[hw0.heap]
   refine⟨some ⟨B,0,none⟩,1,1,rfl,⟨by rw[hi.cell (hH.le.I h1)];rfl,by rw[hi.cell (hH.le.I h2)];rfl,by rw[hi.cell (hH.le.I h3)];rfl⟩,?_⟩;intro w2 hw2;have ia:=hi.alloc (.cells #[.slice (some ⟨B,0,none⟩) 1 1,.pointer pf] 461);have xa:=hi.x1 (.cells #[.slice (some ⟨B,0,none⟩) 1 1,.pointer pf] 461);have ia':=Inv.lk hw2 ia;have hBl:B<w1.heap.size:=(Array.getElem?_eq_some_iff.1 hB).1;have hrow2:LRow (H.add w1.heap.size (.cells #[.slice (some ⟨B,0,none⟩) 1 1,.pointer pf] 461)) w2.heap (.slice (some ⟨B,0,none⟩) 1 1) [(mkList {m with cells:=m.cells+(1+al.length)} al .nil).1]:=by
    refine .inr ⟨B,0,1,#[x],rfl,by simp,by simp,by simp,?_,?_,by rw[xa.I hBl];exact hBi,?_,?_⟩
    ·rw[hw2.heap,Below.heap_alloc _ _ _ hBl];exact hB
    ·rw[xa.mut,hH.mut];intro hm;have:=i.ml hm;omega
    ·rw[xa.F,hH.F];intro hf;have:=(i.ff hf).2;omega
    ·intro j u hu;cases j with
     |zero=>simp at hu;subst hu;exact⟨x,rfl,hvx.mono xa.le⟩
     |succ j=>simp at hu
   have Lx:=hH.le.trans xa.le;have ie:=ia'.pushEnv (Gh.add_at _ _ _) (hn.mono Lx) hrow2;have L:=Lx.trans (Gh.le_env (H.add w1.heap.size (.cells #[.slice (some ⟨B,0,none⟩) 1 1,.pointer pf] 461)) w1.heap.size (.slice (some ⟨B,0,none⟩) 1 1));have hnr:NRep ((H.add w1.heap.size (.cells #[.slice (some ⟨B,0,none⟩) 1 1,.pointer pf] 461)).env w1.heap.size (.slice (some ⟨B,0,none⟩) 1 1)) (some (mkList {m with cells:=m.cells+(1+al.length)} al .nil).2.envs.length) (some ⟨w1.heap.size,0,none⟩):=
    .some _ _ (.slice (some ⟨B,0,none⟩) 1 1) (by show(H.E++[_])[_]? =_;rw[show(mkList {m with cells:=m.cells+(1+al.length)} al .nil).2.envs.length=H.E.length from hi.el.symm];simp)
   exact Calls.mono (qd2 ihe _ _ w2 (1::sh) l _ k k1 ku c1 cu _ ie (hl.mono L) hnr (.cons 1 sh _ (some ⟨B,0,none⟩) 1 pf (Gh.add_at _ _ _) (hs.mono L)) (hk.mono L) he) fun e w p=>Post.stepS hnx rfl ⟨L,by show H.W=G.W;exact hH.W,by show H.F=G.F;exact hH.F⟩ p
  ·have hnx:Sc.next S (.ap (.lam id 1 true l env) al k) m=(.stop 11,{m with cells:=S.quota.toNat}):=by
    simp only[Sc.next,carry,if_true];rw[qb7 (1+al.length) hcl (by push_cast;omega)]
   refine Calls.mono (qp6 q G.mb G.cb sn sc sa m.cells S.quota w0 (by rw[i0.cell hq];rfl) i0.mb1 i0.ce (by omega) (by rw[hal];omega) hcl (by have:=i.cl.2;omega) (by omega)) ?_;rintro e w1 ⟨rfl,hb⟩;have hq:((S.quota.toNat:Nat):Int)=S.quota:=Int.toNat_of_nonneg (by have:(0:Int)<=(m.cells:Int):=Int.natCast_nonneg _;omega);have i1:=i0.cells S.quota.toNat (by omega);rw[hq]at i1;exact .inr ⟨⟨_,rfl⟩,Post.stepS hnx rfl (Gh.up.refl G) (Post.now (.stop 11 _ _ (i1.cntB (by rw[qaf];exact Nat.le_refl _) hb)))⟩
theorem qbg{S:Sub}{n:Nat}(ihv:SimV S n)(p:Pm)(f:Nat)(ef:Eg f)(hk0:p.kinds=[.num,.num])(hg:p.grant=0)(hil:p.isList=false)(hc:∀m k l,carry S (.prim p) l k m=(if !p.isList&&l.length !=p.kinds.length then(.stop 7,m)else if p.grant !=0&&!granted p l then(.stop 9,m)else if !p.isList&&(List.zip p.kinds l).any (fun q=>!q.1.ok q.2)then(.stop 6,m)else match value S m p l with
    |(.error e,m)=>(.stop e,m)
    |(.ok v,m)=>(.ret v k,m)))
  (G:Gh)(m:Mc)(w:World)(al:List Vl)(k:List Fr)(q ku:Nat)(cu:Array Value)(sa:Option Addr)(sn sc:Nat)
  (hval:∀a b,-9223372036854775808<=a->a<=9223372036854775807->-9223372036854775808<=b->b<=9223372036854775807->(∃v x,value S m p [.num a,.num b]=(.ok v,m)/\VRep G v x/\Num2 f a b (some x))\/(value S m p [.num a,.num b]=(.error 8,m)/\Num2 f a b none))
  (i:Inv G S m w)(hq:G.I q=some (.cells #[.func (.func f) #[] #[]] 283 (0,0)))(hk:FRep G k (.func (.func ku) #[] cu))(hr:LRow G w.heap (.slice sa sn sc) al)(he:Ct.ended (go S (n+1) (.ap (.prim p) al k) m).1=true):
  Calls prog 257 (#[.slice sa sn sc,.func (.func ku) #[] cu]++#[bp q]) w (PostS G S (n+1) (.ap (.prim p) al k) m):=by
 obtain⟨xs,hv,hxl,hal,hrow,hgm,hx6⟩:=hr.vals;have hb0:Below w.heap.size w w:=Below.refl _ _;by_cases hlen:sn=2
 ·subst hlen;obtain⟨v0,v1,rfl⟩:∃v0 v1,al=[v0,v1]:=by
   match al,hal with
   | [a,b],_=>exact⟨a,b,rfl⟩
  obtain⟨x0,x1,rfl⟩:∃x0 x1,xs=[x0,x1]:=by
   match xs,hxl with
   | [a,b],_=>exact⟨a,b,rfl⟩
  have hv0:=hv.2 0 v0 x0 rfl rfl;have hv1:=hv.2 1 v1 x1 rfl rfl;rcases hrow with h|⟨g,o,rfl,hcell⟩
  ·simp at h
  have c0:w.cell? ⟨g,o,none⟩=some x0:=hcell 0 (by simp);have c1:w.cell? ⟨g,o+1,none⟩=some x1:=hcell 1 (by simp);obtain⟨t0,y0,rfl⟩:=hv0.form;obtain⟨t1,y1,rfl⟩:=hv1.form;have stop6:(Kd.ok .num v0=false\/Kd.ok .num v1=false)->(t0≠180\/((∃a,t0=180/\y0=.int .i64 a)/\t1≠180))->Calls prog 257 (#[.slice (some ⟨g,o,none⟩) 2 sc,.func (.func ku) #[] cu]++#[bp q]) w (PostS G S (n+1) (.ap (.prim p) [v0,v1] k) m):=fun hko ht=>by
   have hnx:Sc.next S (.ap (.prim p) [v0,v1] k) m=(.stop 6,m):=by
    show carry S (.prim p) [v0,v1] k m=_;rw[hc];rcases hko with hko|hko <;> simp[hk0,hg,hil,hko]
   refine Calls.mono (qld g o sc q t0 t1 y0 y1 ku cu w c0 c1 ht) ?_;rintro e w' ⟨rfl,o',rfl⟩;exact Post.stepS hnx rfl (Gh.up.refl G) (Post.now (.stop 6 _ _ (i.cntB (Nat.le_refl _) ((Below.refl _ _).alloc (Nat.le_refl _) _))))
  rcases hv0.asNum with⟨rfl,a,rfl,rfl,a0,a1⟩|⟨ht0,hk0'⟩
  ·rcases hv1.asNum with⟨rfl,b,rfl,rfl,b0,b1⟩|⟨ht1,hk1'⟩
   ·obtain⟨kk,ck,hku,egu⟩:=hk.isF;cases hku;refine qng g o sc q f ku a b #[] cu w _ ef egu PostS.ends c0 c1 (by rw[i.cell hq];rfl) ?_;intro w' hw;rcases hval a b a0 a1 b0 b1 with⟨v,x,e1,e2,e3⟩|⟨e1,e3⟩
    ·have hnx:Sc.next S (.ap (.prim p) [.num a,.num b] k) m=(.ret v k,m):=by
      show carry S (.prim p) [.num a,.num b] k m=_;rw[hc];simp[hk0,hg,hil,e1,Kd.ok]
     rw[qan hnx rfl]at he;refine Calls.mono (e3 w') ?_;rintro e w1 ⟨rfl,rfl⟩;obtain⟨t,y,rfl⟩:=e2.form;exact .inl ⟨t,y,rfl,fun w2 hw2=>Calls.mono (ihv G m w2 v k _ ku cu (Inv.lk hw2 (Inv.lk hw i)) e2 hk he) fun e w p=>Post.stepS hnx rfl (Gh.up.refl G) p⟩
    ·have hnx:Sc.next S (.ap (.prim p) [.num a,.num b] k) m=(.stop 8,m):=by
      show carry S (.prim p) [.num a,.num b] k m=_;rw[hc];simp[hk0,hg,hil,e1,Kd.ok]
     refine Calls.mono (e3 w') ?_;rintro e w1 ⟨rfl,o',rfl⟩;exact .inr ⟨⟨_,rfl⟩,Post.stepS hnx rfl (Gh.up.refl G) (Post.now (.stop 8 _ _ ((Inv.lk hw i).cntB (Nat.le_refl _) ((Below.refl _ _).alloc (Nat.le_refl _) _))))⟩
   ·exact stop6 (.inr hk1') (.inr ⟨⟨a,rfl,rfl⟩,ht1⟩)
  ·exact stop6 (.inl hk0') (.inl ht0)
 ·have hnx:Sc.next S (.ap (.prim p) al k) m=(.stop 7,m):=by
   show carry S (.prim p) al k m=_;rw[hc];have:al.length≠2:=by omega
   simp[hk0,hil,this]
  refine Calls.mono (qle sa sn sc q ku cu w (by omega) hlen) ?_;rintro e w' ⟨rfl,o',rfl⟩;exact Post.stepS hnx rfl (Gh.up.refl G) (Post.now (.stop 7 _ _ (i.cntB (Nat.le_refl _) ((Below.refl _ _).alloc (Nat.le_refl _) _))))
theorem qj0{S:Sub}{n:Nat}(ihv:SimV S n)(G:Gh)(m:Mc)(w:World)(id:Nat)(kc:List Fr)(ws:List Wn)(al:List Vl)(k:List Fr)(q1 q2 q3:Nat)(uu u:Value)(wp sa:Option Addr)(sn sc:Nat)
  (i:Inv G S m w)(h1:G.mbox q1)(h2:G.I q2=some (.cells #[.pointer wp] 117 (0,0)))(h3:G.I q3=some (.cells #[u] 295 (0,0)))(hk:FRep G kc u)(hw:WRep G ws wp)(hr:LRow G w.heap (.slice sa sn sc) al)(he:Ct.ended (go S (n+1) (.ap (.cont id kc ws) al k) m).1=true):
  Calls prog 312 (#[.slice sa sn sc,uu]++#[bp q1,bp q2,bp q3]) w (PostS G S (n+1) (.ap (.cont id kc ws) al k) m):=by
 have hsn:sn=al.length:=by
  rcases hr with⟨rfl,a,cap,h⟩|⟨g,o,cap,arr,h,_⟩
  ·cases h;rfl
  ·cases h;rfl
 by_cases h1n:sn=1
 ·subst h1n;obtain⟨v,rfl⟩:∃v,al=[v]:=by
   match al,hsn with
   | [a],_=>exact⟨a,rfl⟩
  rcases hr with⟨h,_⟩|⟨g,o,cap,arr,e,hne,hc1,hc2,hg,hgm,hgi,hgf,hx⟩
  ·simp at h
  cases e;obtain⟨x,hx1,hx2⟩:=hx 0 v rfl;have hnx:Sc.next S (.ap (.cont id kc ws) [v] k) m=rewind S ws v kc m:=rfl;rw[qan hnx rfl]at he;have i1:=i.fix ⟨hgm,hgf⟩ hgi hg;have L1:G.le (G.add g (.cells arr 116)):=Gh.le_add hgi;have i2:=i1.alloc (.cells #[.slice (some ⟨g,o,none⟩) 1 sc] 184);have x2:=i1.x1 (.cells #[.slice (some ⟨g,o,none⟩) 1 sc] 184);have L:=L1.trans x2.le;refine qs5 q1 q2 q3 G.mb sc (some ⟨g,o,none⟩) wp uu w _ PostS.ends (by rw[i.cell h1];rfl) (by rw[i.cell h2];rfl) ?_;intro w' hw';have hap:=qdi ihv _ m w' ws v kc wp q3 w.heap.size (.slice (some ⟨g,o,none⟩) 1 sc) x u (Inv.lk hw' i2) (hw.mono L) (L.I h3) (by exact Gh.add_at _ _ _) ⟨g,o,sc,arr,rfl,x2.le.I (Gh.add_at _ _ _),by simpa using hc1,hc2,fun j z hz=>by
    cases j with
    |zero=>simp at hz;subst hz;exact hx1
    |succ j=>simp at hz⟩ (hx2.mono L) (hk.mono L) he
  exact Calls.mono hap fun e w p=>Post.stepS hnx rfl ⟨L,rfl,rfl⟩ p
 ·have hnx:Sc.next S (.ap (.cont id kc ws) al k) m=(.stop 7,m):=by
   show carry S (.cont id kc ws) al k m=_;unfold carry
   match al,hsn with
   | [],_=>rfl
   | [a],h=>exact absurd h h1n
   |_::_::_,_=>rfl
  refine Calls.mono (qpz q1 q2 q3 sn sc sa uu w h1n) ?_;rintro e w' ⟨rfl,hb⟩;exact Post.stepS hnx rfl (Gh.up.refl G) (Post.now (.stop 7 _ _ (i.cntB (Nat.le_refl _) hb)))
end
section
open Sc
theorem eg257:Eg 257:=qak func257 (by kernel_rfl) (by kernel_rfl)
theorem eg268:Eg 268:=qak func268 (by kernel_rfl) (by kernel_rfl)
theorem eg270:Eg 270:=qak func270 (by kernel_rfl) (by kernel_rfl)
theorem eg271:Eg 271:=qak func271 (by kernel_rfl) (by kernel_rfl)
theorem eg204:Eg 204:=qak func204 (by kernel_rfl) (by kernel_rfl)
theorem eg274:Eg 274:=qak func274 (by kernel_rfl) (by kernel_rfl)
theorem eg276:Eg 276:=qak func276 (by kernel_rfl) (by kernel_rfl)
theorem eg277:Eg 277:=qak func277 (by kernel_rfl) (by kernel_rfl)
theorem eg278:Eg 278:=qak func278 (by kernel_rfl) (by kernel_rfl)
theorem eg280:Eg 280:=qak func280 (by kernel_rfl) (by kernel_rfl)
theorem eg284:Eg 284:=qak func284 (by kernel_rfl) (by kernel_rfl)
theorem eg286:Eg 286:=qak func286 (by kernel_rfl) (by kernel_rfl)
theorem eg383:Eg 383:=qak func383 (by kernel_rfl) (by kernel_rfl)
theorem eg312:Eg 312:=qak func312 (by kernel_rfl) (by kernel_rfl)
theorem PRep.isF{G:Gh}{p:Pm}{x:Value}(h:PRep G p x):IsF x:=by
 have key:p.form≠3->Eg p.wrapF:=fun hf=>by
  have h:p.wrapF=257\/p.wrapF=268\/p.wrapF=270\/p.wrapF=271\/p.wrapF=204\/p.wrapF=274\/p.wrapF=276\/p.wrapF=277\/p.wrapF=278\/p.wrapF=280\/p.wrapF=284\/p.wrapF=286:=by
   cases p <;> first|exact absurd rfl hf|simp[Sc.Pm.wrapF]
  rcases h with h|h|h|h|h|h|h|h|h|h|h|h
  ·rw[h];exact eg257
  ·rw[h];exact eg268
  ·rw[h];exact eg270
  ·rw[h];exact eg271
  ·rw[h];exact eg204
  ·rw[h];exact eg274
  ·rw[h];exact eg276
  ·rw[h];exact eg277
  ·rw[h];exact eg278
  ·rw[h];exact eg280
  ·rw[h];exact eg284
  ·rw[h];exact eg286
 cases h with
 |bare q hf h=>exact⟨_,_,rfl,key (by rw[hf];decide)⟩
 |mach q r hf h hr=>exact⟨_,_,rfl,key (by rw[hf];decide)⟩
 |self q hf h=>exact⟨_,_,rfl,key (by rw[hf];decide)⟩
def SimP(S:Sub)(n:Nat):Prop:=∀(G:Gh) (m:Mc) (w:World) (p:Pm) (al:List Vl) (k:List Fr) (kx ku:Nat) (cx cu:Array Value) (sa:Option Addr) (sn sc:Nat),TabW G->Inv G S m w->PRep G p (.func (.func kx) #[] cx)->FRep G k (.func (.func ku) #[] cu)->LRow G w.heap (.slice sa sn sc) al->
 Ct.ended (go S (n+1) (.ap (.prim p) al k) m).1=true->Calls prog kx (#[.slice sa sn sc,.func (.func ku) #[] cu]++cx) w (PostS G S (n+1) (.ap (.prim p) al k) m)
theorem sim_ap{S:Sub}{n:Nat}(hp:SimP S n)(G:Gh)(tw:TabW G)(m:Mc)(w:World)(f:Vl)(al:List Vl)(k:List Fr)(x:Value)(i:Inv G S m w)(hx:NxRep G w.heap f al k x)(he:Ct.ended (go S (n+1) (.ap f al k) m).1=true):
  ∃cx,x=.func (.func 311) #[] cx/\Calls prog 311 (#[]++cx) w (PostS G S (n+1) (.ap f al k) m):=by
 cases hx with
 |mk q1 q2 q3 b sv u h1 h2 h3 hf hl hk=>
  refine⟨_,rfl,?_⟩;obtain⟨ku,cu,rfl,egu⟩:=hk.isF;obtain⟨sa,sn,sc,rfl⟩:∃sa sn sc,sv=.slice sa sn sc:=by
   rcases hl with⟨_,a,cap,e⟩|⟨g,o,cap,arr,e,_⟩
   ·exact⟨_,_,_,e⟩
   ·exact⟨_,_,_,e⟩
  have c1:w.cell? ⟨q1,0,none⟩=some (.pointer (some ⟨b,0,none⟩)):=by rw[i.cell h1];rfl
  have c2:w.cell? ⟨q2,0,none⟩=some (.slice sa sn sc):=by rw[i.cell h2];rfl
  have c3:w.cell? ⟨q3,0,none⟩=some (.func (.func ku) #[] cu):=by rw[i.cell h3];rfl
  have lr:∀w',Lk w w'->LRow G w'.heap (.slice sa sn sc) al:=fun w' hw=>by rw[hw.heap];exact hl
  show Calls prog 311 #[bp q1,bp q2,bp q3] w _;cases hf with
  |lam sh id N r l env b p1 p2 p3 xl xb pf hj hb g1 g2 g3 hll hxb hn hs=>
   refine qqg q1 q2 q3 b 383 #[bp p1,bp p2,bp p3] sa sn sc ku cu w _ eg383 PostS.ends c1 (by rw[i.cell hb];rfl) c2 c3 ?_;intro w' hw;cases r with
   |false=>exact qjz (qav S n).1 G m w' id N l env al k sh p1 p2 p3 ku cu xl xb pf sa sn sc (Inv.lk hw i) g1 g2 g3 hll hxb hn hs hk (lr w' hw) he
   |true=>exact qjy (qav S n).1 G m w' id N l env al k sh p1 p2 p3 ku cu xl xb pf sa sn sc (Inv.lk hw i) g1 g2 g3 hll hxb hn hs hk (lr w' hw) he
  |prim p x hb hpr=>
   obtain⟨kx,cx,rfl,egx⟩:=hpr.isF;refine qqg q1 q2 q3 _ kx cx sa sn sc ku cu w _ egx PostS.ends c1 (by rw[i.cell hb];rfl) c2 c3 ?_;intro w' hw;exact hp G m w' p al k kx ku cx cu sa sn sc tw (Inv.lk hw i) hpr hk (lr w' hw) he
  |cont id kc ws b p1 p2 p3 u' wp hj hb g1 g2 g3 hkc hwp=>
   refine qqg q1 q2 q3 b 312 #[bp p1,bp p2,bp p3] sa sn sc ku cu w _ eg312 PostS.ends c1 (by rw[i.cell hb];rfl) c2 c3 ?_;intro w' hw;exact qj0 (qav S n).2 G m w' id kc ws al k p1 p2 p3 _ u' wp sa sn sc (Inv.lk hw i) g1 g2 g3 hkc hwp (lr w' hw) he
end
section
open Sc
inductive RunOut (G:Gh) (S:Sub):Ct->Mc->Ending->World->Prop where
 |done (v:Vl) (m:Mc) (w:World) (H:Gh) (x:Value) (hu:G.up H) (hi:Inv H S m w) (hx:VRep H v x):RunOut G S (.done v) m (.returned x) w
 |stop (vd:Nat) (m:Mc) (w:World) (hc:Cnt G S m w):RunOut G S (.stop vd) m (.panicked (stopP (stopW vd m))) w
def RelA(G:Gh)(S:Sub)(r:Ct×Mc)(k:Nat)(x:Value)(wr:World):Prop:=∃j c m1 H,j<=k/\r=go S j c m1/\G.up H/\Inv H S m1 wr/\((∃f l kk,c=.ap f l kk/\NxRep H wr.heap f l kk x)\/(∃v y,c=.done v/\x=.nilFunc/\wr.cell? ⟨H.mb,3,none⟩=some y/\VRep H v y))
theorem ql5(w:World):(binOp .neq 297 .nilFunc .nilFunc).run prog w=.ok (.bool false) w:=by
 have h:∀d,(Op.equalIn (d+1) 297 .nilFunc .nilFunc).run prog w=.ok true w:=fun d=>by simp[Op.equalIn,run_underlying underlying297]
 have e:(Op.equal 297 .nilFunc .nilFunc).run prog w=.ok true w:=h 9999;simp[binOp,e]
theorem qi4(f:Fn)(a c:Array Value)(w:World):(binOp .neq 297 (.func f a c) .nilFunc).run prog w=.ok (.bool true) w:=by
 have h:∀d,(Op.equalIn (d+1) 297 (.func f a c) .nilFunc).run prog w=.ok false w:=fun d=>by simp[Op.equalIn,run_underlying underlying297]
 have e:(Op.equal 297 (.func f a c) .nilFunc).run prog w=.ok false w:=h 9999;simp[binOp,e]
theorem eg311:Eg 311:=qak func311 (by kernel_rfl) (by kernel_rfl)
theorem qis{G G1 H:Gh}{S:Sub}{r:Ct×Mc}{n k:Nat}{c:Ct}{m:Mc}{e:Ending}{w:World}(h1:G1.up H)(h0:G.up G1)(hr:r=go S n c m)(he:Ct.ended r.1=true)(hn:n<=k)(o:Out H S c m e w):
  (∃x,e=.returned x/\RelA G1 S r k x w)\/(∃ps,e=.panicked ps/\RunOut G S r.1 r.2 (.panicked ps) w):=by
 cases o with
 |ap f l kk m w L x hu hi hx=>exact .inl ⟨x,rfl,n,_,m,L,hn,hr,h1.trans hu,hi,.inl ⟨f,l,kk,rfl,hx⟩⟩
 |done v m w L x hu hi hc hx=>exact .inl ⟨_,rfl,n,_,m,L,hn,hr,h1.trans hu,hi,.inr ⟨v,x,rfl,rfl,hc,hx⟩⟩
 |stop vd m w hc=>
  rw[qks n rfl]at hr;subst hr;exact .inr ⟨_,rfl,.stop vd m w (hc.up (h0.trans h1))⟩
theorem qem{S:Sub}(hp:∀n,SimP S n)(G:Gh)(tw:TabW G)(m:Mc)(w:World)(kx:Nat)(cx:Array Value)(N:Nat)(r:Ct×Mc)(i:Inv G S m w)(ex:Eg kx)(hr:Ct.ended r.1=true)
  (hE:∀w',Lk (w.alloc (.cells #[bp G.mb] 107)) w'->Calls prog kx (#[.pointer none,.func (.func 230) #[] #[bp w.heap.size]]++cx) w' fun e w2=>(∃x,e=.returned x/\RelA (G.add w.heap.size (.cells #[bp G.mb] 107)) S r N x w2)\/(∃ps,e=.panicked ps/\RunOut G S r.1 r.2 (.panicked ps) w2)):
  Calls prog 143 #[bp G.mb,.func (.func kx) #[] cx] w fun e w'=>RunOut G S r.1 r.2 e w':=by
 have HE:=hZ hE;have HR:=hZ hr;have HI:=hZ i;have HTW:=hZ tw;clear tw;have eg3:∀args w,(callFunc 311 args).run prog w=.ok (.enter 311 args) w:=eg311;have eg:∀args w,(callFunc kx args).run prog w=.ok (.enter kx args) w:=ex;clear hE hr i ex;go_enter func143,ntmps143
 go_wp2_with (go_at_fn kx;refine(HE.out _ (by exact⟨rfl,rfl,rfl,rfl⟩)).mono ?_;rintro e w2 (⟨x,rfl,hx⟩|⟨ps,rfl,hx⟩))
 ·have HX:=hZ hx;clear hx;go_wp2;go_loopg [5] N (fun k x wr=>RelA (G.add w.heap.size (.cells #[bp G.mb] 107)) S r k x wr)
  case atStart=>exact HX.out
  case round=>
   obtain⟨j,c,m1,H,hj,hgo,hu,hi,hcase⟩:=hrel;have HGo:=hZ hgo;have HU:=hZ hu;have HI':=hZ hi;have HJ:=hZ hj;clear hgo hu hi hj;rcases hcase with⟨f,l,kk,rfl,hnx⟩|⟨v,y,rfl,rfl,hy,hvy⟩
   ·obtain⟨n,rfl⟩:∃n,j=n+1:=by
     cases j with
     |zero=>have h:=HR.out;rw[HGo.out]at h;simp[go,Ct.ended]at h
     |succ n=>exact⟨n,rfl⟩
    have he:Ct.ended (go S (n+1) (.ap f l kk) m1).1=true:=by rw[<-HGo.out];exact HR.out
    obtain⟨c3,rfl,hcalls⟩:=sim_ap (hp n) H (((HTW.out).up ⟨Gh.le_add (HI.out.fresh (Nat.le_refl _)),rfl,rfl⟩).up HU.out) m1 wr f l kk _ HI'.out hnx he;have hn297:∀w,(binOp BinOp.neq 297 (.func (.func 311) #[] c3) .nilFunc).run prog w=.ok (.bool true) w:=fun w=>qi4 _ _ _ w
    have HC:Hid (Calls prog 311 (#[]++c3) wr fun e w2=>(∃x,e=.returned x/\RelA (G.add w.heap.size (.cells #[bp G.mb] 107)) S r n x w2)\/(∃ps,e=.panicked ps/\RunOut G S r.1 r.2 (.panicked ps) w2)):=by
     refine Calls.mono hcalls ?_;rintro e w2 ⟨j',c',m',hj',hgo',hout⟩;exact qis HU.out ⟨Gh.le_add (HI.out.fresh (Nat.le_refl _)),rfl,rfl⟩ (HGo.out.trans hgo') HR.out (by omega) hout
    have e3:(#[]++c3:Array Value)=c3:=by simp
    have HC':Hid (Calls prog 311 c3 wr fun e w2=>(∃x,e=.returned x/\RelA (G.add w.heap.size (.cells #[bp G.mb] 107)) S r n x w2)\/(∃ps,e=.panicked ps/\RunOut G S r.1 r.2 (.panicked ps) w2)):=by
     have:=HC.out;rw[e3]at this;exact this
    clear hnx hcalls he e3 HC;go_wp2_with (go_at_fn 311;refine HC'.out.mono ?_;rintro e w2 (⟨x2,rfl,hx2⟩|⟨ps,rfl,hx2⟩))
    ·go_wp2;go_roundg n
     case measure=>have:=HJ.out;omega
     case rel=>exact hx2
    ·exact⟨rfl,hx2⟩
   ·have hn297:∀w,(binOp BinOp.neq 297 .nilFunc .nilFunc).run prog w=.ok (.bool false) w:=fun w=>ql5 w
    obtain⟨ty,yy,rfl⟩:=hvy.form;have c1:wr.cell? ⟨w.heap.size,0,none⟩=some (.pointer (some ⟨G.mb,0,none⟩)):=by
     rw[HI'.out.cell (HU.out.le.I (Gh.add_at _ _ _))];rfl
    have hmb:H.mb=G.mb:=HU.out.le.mb;rw[hmb]at hy;have HV:=hZ hvy;clear hvy hmb;go_wp2;go_ret;have e:=HGo.out;rw[qks j rfl]at e;subst e;exact .done v m1 wr H _ (Gh.up.trans ⟨Gh.le_add (HI.out.fresh (Nat.le_refl _)),rfl,rfl⟩ HU.out) HI'.out HV.out
 ·exact⟨rfl,hx⟩
end
section
open Sc
theorem qsn{S:Sub}(hp:∀n,SimP S n)(G:Gh)(tw:TabW G)(m:Mc)(w:World)(e:Ex)(kx:Nat)(cx:Array Value)(N:Nat)(i:Inv G S m w)(hc:CRep G [] e (.func (.func kx) #[] cx))(he:Ct.ended (go S N (.ev e none []) m).1=true):
  Calls prog 143 #[bp G.mb,.func (.func kx) #[] cx] w fun e' w'=>RunOut G S (go S N (.ev e none []) m).1 (go S N (.ev e none []) m).2 e' w':=by
 obtain⟨kk,ck,hkx,ex⟩:=hc.isF;cases hkx;have i1:=i.alloc (.cells #[bp G.mb] 107);have x1:=i.x1 (.cells #[bp G.mb] 107);refine qem hp G tw m w kx cx N _ i ex he fun w' hw=>?_
 refine Calls.mono ((qav S N).1 _ m w' [] e none [] kx 230 cx _ none (Inv.lk hw i1) (hc.mono x1.le) .none (.nil none) (.nil w.heap.size (Gh.add_at _ _ _)) he) ?_;rintro e' w2 ⟨j,c',m',h1,h2,h3⟩;exact qis (Gh.up.refl _) x1.up h2 he h1 h3
theorem qq5{S:Sub}(hp:∀n,SimP S n)(G:Gh)(tw:TabW G)(m:Mc)(w:World)(N:Nat)(i:Inv G S m w)(he:Ct.ended (go S N (.ev .skip none []) m).1=true):
  Calls prog 143 #[bp G.mb,.func (.func 235) #[] #[]] w fun e' w'=>RunOut G S (go S N (.ev .skip none []) m).1 (go S N (.ev .skip none []) m).2 e' w':=by
 have i1:=i.alloc (.cells #[bp G.mb] 107);have x1:=i.x1 (.cells #[bp G.mb] 107);obtain⟨n,rfl⟩:∃n,N=n+1:=by
  cases N with
  |zero=>simp[go,Ct.ended]at he
  |succ n=>exact⟨n,rfl⟩
 have hnx:Sc.next S (.ev .skip none []) m=(.ret .none [],m):=rfl;refine qem hp G tw m w 235 #[] (n+1) _ i eg235 he fun w' hw=>?_
 rw[qan hnx rfl]at he|-;refine qkj 230 none #[bp w.heap.size] w' _ eg230 (fun e w h=>?_) ?_
 ·rcases h with⟨x,rfl,_⟩|⟨ps,rfl,_⟩
  ·exact .inl ⟨_,rfl⟩
  ·exact .inr ⟨_,rfl⟩
 ·intro w'' hw2;refine Calls.mono ((qav S n).2 _ m w'' .none [] _ 230 _ (Inv.lk hw2 (Inv.lk hw i1)) .none (.nil w.heap.size (Gh.add_at _ _ _)) he) ?_;rintro e' w2 ⟨j,c',m',h1,h2,h3⟩;exact qis (Gh.up.refl _) x1.up h2 he (by omega) h3
end
section
open Sc
theorem PostS.up{G H:Gh}{S:Sub}{n:Nat}{c:Ct}{m:Mc}{e:Ending}{w:World}(hu:G.up H)(p:PostS H S n c m e w):PostS G S n c m e w:=by
 obtain⟨j,c',m',h1,h2,h3⟩:=p;exact⟨j,c',m',h1,h2,h3.up hu⟩
theorem PostS.keeps{G:Gh}{S:Sub}{n:Nat}{c:Ct}{m:Mc}{v:Value}{w:World}(h:PostS G S n c m (.returned v) w){b:Nat}{o:Obj}(hb:G.I b=some o):w.heap[b]? =some o:=h.post.keeps hb
def WorkOk(G:Gh)(S:Sub)(rv:Except Nat Vl×Mc)(e:Ending)(w1:World):Prop:=
 (∃H v' m' x',rv=(.ok v',m')/\e=.returned x'/\G.up H/\Inv H S m' w1/\VRep H v' x')\/(∃vd m',rv=(.error vd,m')/\e=.panicked (stopP (stopW vd m'))/\Cnt G S m' w1)
def Plain(S:Sub)(p:Pm):Prop:=∀m k l,carry S (.prim p) l k m=(if !p.isList&&l.length !=p.kinds.length then(.stop 7,m)else if p.grant !=0&&!granted p l then(.stop 9,m)else if !p.isList&&(List.zip p.kinds l).any (fun q=>!q.1.ok q.2)then(.stop 6,m)else match value S m p l with
    |(.error e,m)=>(.stop e,m)
    |(.ok v,m)=>(.ret v k,m))
theorem LRow.one{G:Gh}{h:Array Obj}{sa:Option Addr}{sc:Nat}{v:Vl}(hr:LRow G h (.slice sa 1 sc) [v]):∃g o arr x,sa=some ⟨g,o,none⟩/\1<=sc/\1<=1000000/\h[g]? =some (.cells arr 116 (0,0))/\(g∉G.mut/\¬G.F g)/\G.I g=none/\arr[o]? =some x/\VRep G v x:=by
 rcases hr with⟨h,_⟩|⟨g,o,cap,arr,e,hne,hc1,hc2,hg,hgm,hgi,hgf,hx⟩
 ·simp at h
 ·cases e;obtain⟨x,h1,h2⟩:=hx 0 v rfl;exact⟨g,o,arr,x,rfl,by simpa using hc1,hc2,hg,⟨hgm,hgf⟩,hgi,h1,h2⟩
theorem qar{S:Sub}{n:Nat}(p:Pm)(f:Nat)(cw:Array Value)(ef:Eg f)(hk0:p.kinds=[.any])(hg0:p.grant=0)(hil:p.isList=false)(hc:Plain S p)
  (G:Gh)(m:Mc)(w:World)(al:List Vl)(k:List Fr)(q ku:Nat)(cu:Array Value)(sa:Option Addr)(sn sc:Nat)
  (hwork:∀(H:Gh) (w':World) (v:Vl) (x:Value),G.up H->Inv H S m w'->VRep H v x->Calls prog f (#[x]++cw) w' (WorkOk H S (value S m p [v])))
  (i:Inv G S m w)(hq:G.I q=some (.cells #[.func (.func f) #[] cw] 287 (0,0)))(hk:FRep G k (.func (.func ku) #[] cu))(hr:LRow G w.heap (.slice sa sn sc) al)(he:Ct.ended (go S (n+1) (.ap (.prim p) al k) m).1=true):
  Calls prog 268 (#[.slice sa sn sc,.func (.func ku) #[] cu]++#[bp q]) w (PostS G S (n+1) (.ap (.prim p) al k) m):=by
 have hsn:sn=al.length:=by
  rcases hr with⟨rfl,a,cap,h⟩|⟨g,o,cap,arr,h,_⟩
  ·cases h;rfl
  ·cases h;rfl
 by_cases hlen:sn=1
 ·subst hlen;obtain⟨v,rfl⟩:∃v,al=[v]:=by
   match al,hsn with
   | [a],_=>exact⟨a,rfl⟩
  obtain⟨g,o,arr,x,rfl,hc1,hc2,hg,hgm,hgi,hx1,hv⟩:=hr.one;have i1:=i.fix hgm hgi hg;have U1:G.up (G.add g (.cells arr 116)):=⟨Gh.le_add hgi,rfl,rfl⟩;have hcar:Sc.next S (.ap (.prim p) [v] k) m=(match value S m p [v]with
    |(.error e,m)=>(.stop e,m)
    |(.ok v,m)=>(.ret v k,m)):=by
   show carry S (.prim p) [v] k m=_;rw[hc];simp[hk0,hg0,hil,Kd.ok]
  obtain⟨t,y,rfl⟩:=hv.form;obtain⟨kk,ck,hku,egu⟩:=hk.isF;cases hku;have qap:∀(w':World),(∀{b:Nat} {ob:Obj},(G.add g (.cells arr 116)).I b=some ob->w'.heap[b]? =some ob)->w'.cell? ⟨g,o,none⟩=some (.iface t y)/\w'.cell? ⟨q,0,none⟩=some (.func (.func f) #[] cw):=fun w' hw'=>by
   refine⟨?_,?_⟩
   ·simp only[World.cell?,hw' (Gh.add_at G g (.cells arr 116))];simpa using hx1
   ·simp[World.cell?,hw' (U1.le.I hq)]
  refine Calls.mono (R:=PostS (G.add g (.cells arr 116)) S (n+1) (.ap (.prim p) [v] k) m) ?_ (fun e w h=>h.up U1);refine qok g o sc q f ku t y cw cu w _ ef egu PostS.ends hv.vty (fun v w' p=>qap w' fun hb=>p.keeps hb) (qap w fun hb=>i1.imm hb).1 (qap w fun hb=>i1.imm hb).2 ?_;intro w' hw;refine Calls.mono (hwork _ w' v (.iface t y) U1 (Inv.lk hw i1) (hv.mono U1.le)) ?_;rintro e w1 (⟨H,v',m',x',e1,rfl,hu,hi,hx'⟩|⟨vd,m',e1,rfl,hcn⟩)
  ·rw[e1]at hcar;rw[qan hcar rfl]at he;obtain⟨t',y',rfl⟩:=hx'.form;refine .inl ⟨t',y',rfl,qap w1 fun hb=>hi.imm (hu.le.I hb),fun w2 hw2=>?_⟩;exact Calls.mono ((qav S n).2 H m' w2 v' k _ ku cu (Inv.lk hw2 hi) hx' ((hk.mono U1.le).mono hu.le) he) fun e w p=>Post.stepS hcar rfl hu p
  ·rw[e1]at hcar;exact .inr ⟨⟨_,rfl⟩,Post.stepS hcar rfl (Gh.up.refl _) (Post.now (.stop vd m' w1 hcn))⟩
 ·have hnx:Sc.next S (.ap (.prim p) al k) m=(.stop 7,m):=by
   show carry S (.prim p) al k m=_;rw[hc];have:al.length≠1:=by omega
   simp[hk0,hil,this]
  obtain⟨xs,_,hxl,_,_,_,hx6⟩:=hr.vals;refine Calls.mono (ql3 sa sn sc q ku cu w (by omega) hlen) ?_;rintro e w' ⟨rfl,o',rfl⟩;exact Post.stepS hnx rfl (Gh.up.refl G) (Post.now (.stop 7 _ _ (i.cntB (Nat.le_refl _) ((Below.refl _ _).alloc (Nat.le_refl _) _))))
end
section
open Sc
theorem WorkOk.bool{G:Gh}{S:Sub}{m:Mc}{w:World}{b:Bool}{rv:Except Nat Vl×Mc}(h:rv=(.ok (.bool b),m))(i:Inv G S m w):WorkOk G S rv (.returned (.iface 181 (.bool b))) w:=
 .inl ⟨G,_,_,_,h,rfl,Gh.up.refl G,i,.bool b⟩
theorem is186_w(w:World):Calls prog 260 #[.iface 186 (.agg #[])] w fun e w'=>e=.returned (.iface 181 (.bool true))/\(w'=w\/∃o,w'=w.alloc o):=by
 have ha:∀w,(Instr.typeAssert (.iface 186 (.agg #[])) 116 186 true).run prog w=.ok (.tuple #[.agg #[],.bool true]) w:=fun w=>is186 _ w
 go_enter func260,ntmps260
 go_wp2;go_ret;first|exact⟨rfl,.inl rfl⟩|exact⟨rfl,.inr ⟨_,rfl⟩⟩
theorem qho(t:Nat)(y:Value)(ht:t≠186)(w:World):Calls prog 260 #[.iface t y] w fun e w'=>e=.returned (.iface 181 (.bool false))/\(w'=w\/∃o,w'=w.alloc o):=by
 have ha:∀w,(Instr.typeAssert (.iface t y) 116 186 true).run prog w=.ok (.tuple #[.agg #[],.bool false]) w:=fun w=>qc0 _ _ ht w
 clear ht;go_enter func260,ntmps260
 go_wp2;go_ret;first|exact⟨rfl,.inl rfl⟩|exact⟨rfl,.inr ⟨_,rfl⟩⟩
theorem ql4{S:Sub}(m:Mc)(H:Gh)(w:World)(v:Vl)(x:Value)(i:Inv H S m w)(hv:VRep H v x):Calls prog 260 (#[x]++#[]) w (WorkOk H S (value S m .nullQ [v])):=by
 have key:∀(x:Value) (b:Bool),value S m .nullQ [v]=(.ok (.bool b),m)->Calls prog 260 #[x] w (fun e w'=>e=.returned (.iface 181 (.bool b))/\(w'=w\/∃o,w'=w.alloc o))->Calls prog 260 (#[x]++#[]) w (WorkOk H S (value S m .nullQ [v])):=fun x b h hc=>by
  refine Calls.mono hc ?_;rintro e w' ⟨rfl,rfl|⟨o,rfl⟩⟩
  ·exact WorkOk.bool h i
  ·exact WorkOk.bool h (i.below ((Below.refl _ _).alloc (Nat.le_refl _) _))
 cases hv with
 |proc v b h=>exact key _ false (by cases h <;> rfl) (qho _ _ (by decide) w)
 |nil=>exact key _ true rfl (is186_w w)
 |_=>exact key _ false rfl (qho _ _ (by decide) w)
theorem is246_w(b:Nat)(w:World):Calls prog 261 #[.iface 246 (.pointer (some ⟨b,0,none⟩))] w fun e w'=>e=.returned (.iface 181 (.bool true))/\(w'=w\/∃o,w'=w.alloc o):=by
 have ha:∀w,(Instr.typeAssert (.iface 246 (.pointer (some ⟨b,0,none⟩))) 116 246 true).run prog w=.ok (.tuple #[.pointer (some ⟨b,0,none⟩),.bool true]) w:=fun w=>qgj _ w
 go_enter func261,ntmps261
 go_wp2;go_ret;first|exact⟨rfl,.inl rfl⟩|exact⟨rfl,.inr ⟨_,rfl⟩⟩
theorem qhn(t:Nat)(y:Value)(ht:t≠246)(w:World):Calls prog 261 #[.iface t y] w fun e w'=>e=.returned (.iface 181 (.bool false))/\(w'=w\/∃o,w'=w.alloc o):=by
 have ha:∀w,(Instr.typeAssert (.iface t y) 116 246 true).run prog w=.ok (.tuple #[.pointer none,.bool false]) w:=fun w=>qcd _ _ ht w
 clear ht;go_enter func261,ntmps261
 go_wp2;go_ret;first|exact⟨rfl,.inl rfl⟩|exact⟨rfl,.inr ⟨_,rfl⟩⟩
theorem qlu{S:Sub}(m:Mc)(H:Gh)(w:World)(v:Vl)(x:Value)(i:Inv H S m w)(hv:VRep H v x):Calls prog 261 (#[x]++#[]) w (WorkOk H S (value S m .pairQ [v])):=by
 have key:∀(x:Value) (b:Bool),value S m .pairQ [v]=(.ok (.bool b),m)->Calls prog 261 #[x] w (fun e w'=>e=.returned (.iface 181 (.bool b))/\(w'=w\/∃o,w'=w.alloc o))->Calls prog 261 (#[x]++#[]) w (WorkOk H S (value S m .pairQ [v])):=fun x b h hc=>by
  refine Calls.mono hc ?_;rintro e w' ⟨rfl,rfl|⟨o,rfl⟩⟩
  ·exact WorkOk.bool h i
  ·exact WorkOk.bool h (i.below ((Below.refl _ _).alloc (Nat.le_refl _) _))
 cases hv with
 |proc v b h=>exact key _ false (by cases h <;> rfl) (qhn _ _ (by decide) w)
 |pair id b=>exact key _ true rfl (is246_w b w)
 |_=>exact key _ false rfl (qhn _ _ (by decide) w)
theorem is180_w(b:Int)(w:World):Calls prog 262 #[.iface 180 (.int .i64 b)] w fun e w'=>e=.returned (.iface 181 (.bool true))/\(w'=w\/∃o,w'=w.alloc o):=by
 have ha:∀w,(Instr.typeAssert (.iface 180 (.int .i64 b)) 116 180 true).run prog w=.ok (.tuple #[.int .i64 b,.bool true]) w:=fun w=>is180 _ w
 go_enter func262,ntmps262
 go_wp2;go_ret;first|exact⟨rfl,.inl rfl⟩|exact⟨rfl,.inr ⟨_,rfl⟩⟩
theorem qhs(t:Nat)(y:Value)(ht:t≠180)(w:World):Calls prog 262 #[.iface t y] w fun e w'=>e=.returned (.iface 181 (.bool false))/\(w'=w\/∃o,w'=w.alloc o):=by
 have ha:∀w,(Instr.typeAssert (.iface t y) 116 180 true).run prog w=.ok (.tuple #[.int .i64 0,.bool false]) w:=fun w=>qbx _ _ ht w
 clear ht;go_enter func262,ntmps262
 go_wp2;go_ret;first|exact⟨rfl,.inl rfl⟩|exact⟨rfl,.inr ⟨_,rfl⟩⟩
theorem qo3{S:Sub}(m:Mc)(H:Gh)(w:World)(v:Vl)(x:Value)(i:Inv H S m w)(hv:VRep H v x):Calls prog 262 (#[x]++#[]) w (WorkOk H S (value S m .intQ [v])):=by
 have key:∀(x:Value) (b:Bool),value S m .intQ [v]=(.ok (.bool b),m)->Calls prog 262 #[x] w (fun e w'=>e=.returned (.iface 181 (.bool b))/\(w'=w\/∃o,w'=w.alloc o))->Calls prog 262 (#[x]++#[]) w (WorkOk H S (value S m .intQ [v])):=fun x b h hc=>by
  refine Calls.mono hc ?_;rintro e w' ⟨rfl,rfl|⟨o,rfl⟩⟩
  ·exact WorkOk.bool h i
  ·exact WorkOk.bool h (i.below ((Below.refl _ _).alloc (Nat.le_refl _) _))
 cases hv with
 |proc v b h=>exact key _ false (by cases h <;> rfl) (qhs _ _ (by decide) w)
 |num b h0 h1=>exact key _ true rfl (is180_w b w)
 |_=>exact key _ false rfl (qhs _ _ (by decide) w)
theorem is183_w(b:ByteArray)(w:World):Calls prog 263 #[.iface 183 (.string b)] w fun e w'=>e=.returned (.iface 181 (.bool true))/\(w'=w\/∃o,w'=w.alloc o):=by
 have ha:∀w,(Instr.typeAssert (.iface 183 (.string b)) 116 183 true).run prog w=.ok (.tuple #[.string b,.bool true]) w:=fun w=>is183 _ w
 go_enter func263,ntmps263
 go_wp2;go_ret;first|exact⟨rfl,.inl rfl⟩|exact⟨rfl,.inr ⟨_,rfl⟩⟩
theorem qhp(t:Nat)(y:Value)(ht:t≠183)(w:World):Calls prog 263 #[.iface t y] w fun e w'=>e=.returned (.iface 181 (.bool false))/\(w'=w\/∃o,w'=w.alloc o):=by
 have ha:∀w,(Instr.typeAssert (.iface t y) 116 183 true).run prog w=.ok (.tuple #[.string ⟨#[]⟩,.bool false]) w:=fun w=>qcl _ _ ht w
 clear ht;go_enter func263,ntmps263
 go_wp2;go_ret;first|exact⟨rfl,.inl rfl⟩|exact⟨rfl,.inr ⟨_,rfl⟩⟩
theorem qnk{S:Sub}(m:Mc)(H:Gh)(w:World)(v:Vl)(x:Value)(i:Inv H S m w)(hv:VRep H v x):Calls prog 263 (#[x]++#[]) w (WorkOk H S (value S m .symQ [v])):=by
 have key:∀(x:Value) (b:Bool),value S m .symQ [v]=(.ok (.bool b),m)->Calls prog 263 #[x] w (fun e w'=>e=.returned (.iface 181 (.bool b))/\(w'=w\/∃o,w'=w.alloc o))->Calls prog 263 (#[x]++#[]) w (WorkOk H S (value S m .symQ [v])):=fun x b h hc=>by
  refine Calls.mono hc ?_;rintro e w' ⟨rfl,rfl|⟨o,rfl⟩⟩
  ·exact WorkOk.bool h i
  ·exact WorkOk.bool h (i.below ((Below.refl _ _).alloc (Nat.le_refl _) _))
 cases hv with
 |proc v b h=>exact key _ false (by cases h <;> rfl) (qhp _ _ (by decide) w)
 |sym b _=>exact key _ true rfl (is183_w b w)
 |_=>exact key _ false rfl (qhp _ _ (by decide) w)
theorem is182_w(b:ByteArray)(w:World):Calls prog 264 #[.iface 182 (.string b)] w fun e w'=>e=.returned (.iface 181 (.bool true))/\(w'=w\/∃o,w'=w.alloc o):=by
 have ha:∀w,(Instr.typeAssert (.iface 182 (.string b)) 116 182 true).run prog w=.ok (.tuple #[.string b,.bool true]) w:=fun w=>is182 _ w
 go_enter func264,ntmps264
 go_wp2;go_ret;first|exact⟨rfl,.inl rfl⟩|exact⟨rfl,.inr ⟨_,rfl⟩⟩
theorem qhq(t:Nat)(y:Value)(ht:t≠182)(w:World):Calls prog 264 #[.iface t y] w fun e w'=>e=.returned (.iface 181 (.bool false))/\(w'=w\/∃o,w'=w.alloc o):=by
 have ha:∀w,(Instr.typeAssert (.iface t y) 116 182 true).run prog w=.ok (.tuple #[.string ⟨#[]⟩,.bool false]) w:=fun w=>qce _ _ ht w
 clear ht;go_enter func264,ntmps264
 go_wp2;go_ret;first|exact⟨rfl,.inl rfl⟩|exact⟨rfl,.inr ⟨_,rfl⟩⟩
theorem qno{S:Sub}(m:Mc)(H:Gh)(w:World)(v:Vl)(x:Value)(i:Inv H S m w)(hv:VRep H v x):Calls prog 264 (#[x]++#[]) w (WorkOk H S (value S m .strQ [v])):=by
 have key:∀(x:Value) (b:Bool),value S m .strQ [v]=(.ok (.bool b),m)->Calls prog 264 #[x] w (fun e w'=>e=.returned (.iface 181 (.bool b))/\(w'=w\/∃o,w'=w.alloc o))->Calls prog 264 (#[x]++#[]) w (WorkOk H S (value S m .strQ [v])):=fun x b h hc=>by
  refine Calls.mono hc ?_;rintro e w' ⟨rfl,rfl|⟨o,rfl⟩⟩
  ·exact WorkOk.bool h i
  ·exact WorkOk.bool h (i.below ((Below.refl _ _).alloc (Nat.le_refl _) _))
 cases hv with
 |proc v b h=>exact key _ false (by cases h <;> rfl) (qhq _ _ (by decide) w)
 |str b _=>exact key _ true rfl (is182_w b w)
 |_=>exact key _ false rfl (qhq _ _ (by decide) w)
theorem is181_w(b:Bool)(w:World):Calls prog 265 #[.iface 181 (.bool b)] w fun e w'=>e=.returned (.iface 181 (.bool true))/\(w'=w\/∃o,w'=w.alloc o):=by
 have ha:∀w,(Instr.typeAssert (.iface 181 (.bool b)) 116 181 true).run prog w=.ok (.tuple #[.bool b,.bool true]) w:=fun w=>is181 _ w
 go_enter func265,ntmps265
 go_wp2;go_ret;first|exact⟨rfl,.inl rfl⟩|exact⟨rfl,.inr ⟨_,rfl⟩⟩
theorem qhr(t:Nat)(y:Value)(ht:t≠181)(w:World):Calls prog 265 #[.iface t y] w fun e w'=>e=.returned (.iface 181 (.bool false))/\(w'=w\/∃o,w'=w.alloc o):=by
 have ha:∀w,(Instr.typeAssert (.iface t y) 116 181 true).run prog w=.ok (.tuple #[.bool false,.bool false]) w:=fun w=>qcf _ _ ht w
 clear ht;go_enter func265,ntmps265
 go_wp2;go_ret;first|exact⟨rfl,.inl rfl⟩|exact⟨rfl,.inr ⟨_,rfl⟩⟩
theorem qm2{S:Sub}(m:Mc)(H:Gh)(w:World)(v:Vl)(x:Value)(i:Inv H S m w)(hv:VRep H v x):Calls prog 265 (#[x]++#[]) w (WorkOk H S (value S m .boolQ [v])):=by
 have key:∀(x:Value) (b:Bool),value S m .boolQ [v]=(.ok (.bool b),m)->Calls prog 265 #[x] w (fun e w'=>e=.returned (.iface 181 (.bool b))/\(w'=w\/∃o,w'=w.alloc o))->Calls prog 265 (#[x]++#[]) w (WorkOk H S (value S m .boolQ [v])):=fun x b h hc=>by
  refine Calls.mono hc ?_;rintro e w' ⟨rfl,rfl|⟨o,rfl⟩⟩
  ·exact WorkOk.bool h i
  ·exact WorkOk.bool h (i.below ((Below.refl _ _).alloc (Nat.le_refl _) _))
 cases hv with
 |proc v b h=>exact key _ false (by cases h <;> rfl) (qhr _ _ (by decide) w)
 |bool b=>exact key _ true rfl (is181_w b w)
 |_=>exact key _ false rfl (qhr _ _ (by decide) w)
theorem is281_w(b:Nat)(w:World):Calls prog 266 #[.iface 281 (.pointer (some ⟨b,0,none⟩))] w fun e w'=>e=.returned (.iface 181 (.bool true))/\(w'=w\/∃o,w'=w.alloc o):=by
 have ha:∀w,(Instr.typeAssert (.iface 281 (.pointer (some ⟨b,0,none⟩))) 116 281 true).run prog w=.ok (.tuple #[.pointer (some ⟨b,0,none⟩),.bool true]) w:=fun w=>qsd _ w
 go_enter func266,ntmps266
 go_wp2;go_ret;first|exact⟨rfl,.inl rfl⟩|exact⟨rfl,.inr ⟨_,rfl⟩⟩
theorem qo1(t:Nat)(y:Value)(ht:t≠281)(w:World):Calls prog 266 #[.iface t y] w fun e w'=>e=.returned (.iface 181 (.bool false))/\(w'=w\/∃o,w'=w.alloc o):=by
 have ha:∀w,(Instr.typeAssert (.iface t y) 116 281 true).run prog w=.ok (.tuple #[.pointer none,.bool false]) w:=fun w=>qcz _ _ ht w
 clear ht;go_enter func266,ntmps266
 go_wp2;go_ret;first|exact⟨rfl,.inl rfl⟩|exact⟨rfl,.inr ⟨_,rfl⟩⟩
theorem qls{S:Sub}(m:Mc)(H:Gh)(w:World)(v:Vl)(x:Value)(i:Inv H S m w)(hv:VRep H v x):Calls prog 266 (#[x]++#[]) w (WorkOk H S (value S m .procQ [v])):=by
 have key:∀(x:Value) (b:Bool),value S m .procQ [v]=(.ok (.bool b),m)->Calls prog 266 #[x] w (fun e w'=>e=.returned (.iface 181 (.bool b))/\(w'=w\/∃o,w'=w.alloc o))->Calls prog 266 (#[x]++#[]) w (WorkOk H S (value S m .procQ [v])):=fun x b h hc=>by
  refine Calls.mono hc ?_;rintro e w' ⟨rfl,rfl|⟨o,rfl⟩⟩
  ·exact WorkOk.bool h i
  ·exact WorkOk.bool h (i.below ((Below.refl _ _).alloc (Nat.le_refl _) _))
 cases hv with
 |proc v b h=>exact key _ true (by cases h <;> rfl) (is281_w b w)
 |_=>exact key _ false rfl (qo1 _ _ (by decide) w)
theorem qo2(b:Nat)(w:World):Calls prog 267 #[.iface 285 (.pointer (some ⟨b,0,none⟩))] w fun e w'=>e=.returned (.iface 181 (.bool true))/\(w'=w\/∃o,w'=w.alloc o):=by
 have ha:∀w,(Instr.typeAssert (.iface 285 (.pointer (some ⟨b,0,none⟩))) 116 285 true).run prog w=.ok (.tuple #[.pointer (some ⟨b,0,none⟩),.bool true]) w:=fun w=>is285 _ w
 go_enter func267,ntmps267
 go_wp2;go_ret;first|exact⟨rfl,.inl rfl⟩|exact⟨rfl,.inr ⟨_,rfl⟩⟩
theorem qhm(t:Nat)(y:Value)(ht:t≠285)(w:World):Calls prog 267 #[.iface t y] w fun e w'=>e=.returned (.iface 181 (.bool false))/\(w'=w\/∃o,w'=w.alloc o):=by
 have ha:∀w,(Instr.typeAssert (.iface t y) 116 285 true).run prog w=.ok (.tuple #[.pointer none,.bool false]) w:=fun w=>qjj _ _ ht w
 clear ht;go_enter func267,ntmps267
 go_wp2;go_ret;first|exact⟨rfl,.inl rfl⟩|exact⟨rfl,.inr ⟨_,rfl⟩⟩
theorem qll{S:Sub}(m:Mc)(H:Gh)(w:World)(v:Vl)(x:Value)(i:Inv H S m w)(hv:VRep H v x):Calls prog 267 (#[x]++#[]) w (WorkOk H S (value S m .sealQ [v])):=by
 have key:∀(x:Value) (b:Bool),value S m .sealQ [v]=(.ok (.bool b),m)->Calls prog 267 #[x] w (fun e w'=>e=.returned (.iface 181 (.bool b))/\(w'=w\/∃o,w'=w.alloc o))->Calls prog 267 (#[x]++#[]) w (WorkOk H S (value S m .sealQ [v])):=fun x b h hc=>by
  refine Calls.mono hc ?_;rintro e w' ⟨rfl,rfl|⟨o,rfl⟩⟩
  ·exact WorkOk.bool h i
  ·exact WorkOk.bool h (i.below ((Below.refl _ _).alloc (Nat.le_refl _) _))
 cases hv with
 |proc v b h=>exact key _ false (by cases h <;> rfl) (qhm _ _ (by decide) w)
 |«seal» id b=>exact key _ true rfl (qo2 b w)
 |sealD id b=>exact key _ true rfl (qo2 b w)
 |_=>exact key _ false rfl (qhm _ _ (by decide) w)
end
end Go.Proofs.YtldaocpojcfljaaGreatDoor
