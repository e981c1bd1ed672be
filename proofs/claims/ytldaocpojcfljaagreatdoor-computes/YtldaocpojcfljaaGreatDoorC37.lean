import Derived.Test.YtldaocpojcfljaaGreatDoorC36
set_option maxRecDepth 100000
set_option maxHeartbeats 4000000
namespace Go.Proofs.YtldaocpojcfljaaGreatDoor
open Tryz hiding parts
open Go.RowKit Go.Shelf
section
open Sc
theorem XInv.nab {K:Rl} {X:Xe} {G:Gh} {S:Sub} {x:Xs} {sc:Scope} {w:World} (i:XInv K X G S x sc w):X.rb≠X.ab∧X.rb≠X.bm∧X.mm≠X.ab∧X.mm≠X.bm∧X.ab≠X.bm∧X.rb≠X.mm:=by
 have h:=i.nd
 simp only [List.nodup_cons,List.mem_cons,List.not_mem_nil,or_false,not_or]at h
 exact⟨h.1.2.1,h.1.2.2,h.2.1.1,h.2.1.2,h.2.2.1,h.1.1⟩
theorem Inv.tw {K:Rl} {X:Xe} {G:Gh} {S:Sub} {m:Mc} {x:Xs} {sc:Scope} {w w':World} (g:Inv G S m w) (i:XInv K X G S x sc w) {L:List (Sc.Id×Value)} (hL:∀b,b∈own L→X.Rw b) (t:Tw X (fun b=>b∈own L) w w'):Inv G S m w':=
 g.turns (fun j hj hn=>t.blk hj (fun e=>hn (by subst e;obtain⟨h1,h2,_,h4⟩:=i.lo X.ab (by simp);exact⟨h1,h2,h4⟩)) (fun e=>hn (by subst e;obtain⟨h1,h2,_,h4⟩:=i.lo X.bm (by simp);exact⟨h1,h2,h4⟩)) (fun e=>hn (by obtain⟨h1,h2,_,_,h5⟩:=i.rr j (hL j e);exact⟨h1,h2,h5⟩))) t.size ⟨t.os,t.tape,t.output⟩
theorem Mx.tw {X:Xe} {G:Gh} {w w':World} {L:List (Sc.Id×Value)} (hL:∀b,b∈own L→X.Rw b) (t:Tw X (fun b=>b∈own L) w w') (R:Nat→Prop) (hR:∀b,R b→X.Rw b∨w.heap.size≤b):Mx X G w {X with Rw:=R} G w':=
 ⟨⟨rfl,rfl,rfl,rfl,rfl,rfl⟩,Gh.up.refl G,fun _=>rfl,.inl,fun {b} hb=>hR b hb,fun {k} h1 _ h3 h4=>t.blk h1 (fun e=>h3 (by rw [e];simp)) (fun e=>h3 (by rw [e];simp)) (fun e=>h4 (hL k e)),t.size⟩
theorem XInv.tw {K:Rl} {X:Xe} {G:Gh} {S:Sub} {m:Mc} {x:Xs} {sc sc':Scope} {w w':World} (g:Inv G S m w) (i:XInv K X G S x sc w) {L L':List (Sc.Id×Value)} (hL:∀b,b∈own L→X.Rw b) (t:Tw X (fun b=>b∈own L) w w') (hm:ScMap X sc' w' L') (hab:w'.heap[X.ab]? =some (.cells #[.int .i64 (sc'.length:Int),.map (some X.bm)] 329 (0,0)))
  (hsz:sc'.length≤1000000000∧∀l,l∈sc'→l.length≤1000000000) (R:Nat→Prop) (hR:∀b,R b→X.Rw b∨(w.heap.size≤b∧b<w'.heap.size)) (hR':∀b,b∈own L'→R b):XInv K {X with Rw:=R} G S x sc' w':=by
 obtain⟨n1,n2,n3,n4,n5,n6⟩:=i.nab
 have low:∀c,c<X.lo→c≠X.ab→c≠X.bm→w'.heap[c]? =w.heap[c]?:=fun c hc h1 h2=>t.blk (Nat.lt_of_lt_of_le hc i.sl) h1 h2 fun e=>by have:=(i.rr c (hL c e)).2.2.1;omega
 obtain⟨es,clock,M,hm1,hm2,hm3⟩:=i.mc
 refine⟨i.xe,i.mt.keep (low _ (i.lo _ (by simp)).2.2.1 n1 n2),i.ml,hab,⟨L',hm,hR'⟩,fun b hb=>?_,⟨es,clock,M,by rw [low _ (i.lo _ (by simp)).2.2.1 n3 n4];exact hm1,hm2,hm3⟩,i.lo,i.nd,Nat.le_trans i.sl t.size,hsz⟩
 rcases hR b hb with h|⟨h1,h2⟩
 ·obtain⟨q1,q2,q3,q4,q5⟩:=i.rr b h
  exact⟨q1,q2,q3,Nat.lt_of_lt_of_le q4 t.size,q5⟩
 ·exact⟨g.fresh h1,fun h=>by have:=g.ml h;omega,by show X.lo≤b;have:=i.sl;omega,h2,fun h=>by have:=(g.ff h).2;omega⟩
def BPost (K:Rl) (X:Xe) (G:Gh) (S:Sub) (m:Mc) (sc:Scope) (n:Nat) (w:World) (rv:Except Nat (List Ex)×Xs) (e':Ending) (w':World):Prop:=
 (∃vd x',rv=(.error vd,x')∧e'=.panicked (stopP (stopV vd))∧Cnt G S m w'∧Mt X.rb (Xs.count x') S.rewrites 12 w')∨
 (∃Y H exs x' v,rv=(.ok exs,x')∧e'=.returned v∧Mx X G w Y H w'∧Inv H S m w'∧XInv K Y H S x' sc w'∧SRep H (n::shOf sc) exs v)
theorem IdRow.keep {w w':World} {na:Option Addr} {ids:List (ByteArray×Int)} (h:IdRow w na ids) (hk:∀g,na=some ⟨g,0,none⟩→w'.heap[g]? =w.heap[g]?):IdRow w' na ids:=fun i p hp=>by
 obtain⟨g,h1,h2,h3⟩:=h i p hp
 have:=hk g h1
 refine⟨g,h1,?_,?_⟩
 ·simp only [World.cell?,this]at h2⊢;exact h2
 ·simp only [World.cell?,this]at h3⊢;exact h3
theorem qfh (i:Sc.Id) (sc:Scope) (h:sc.length≤1000000000):(spots i sc).length≤1000000000:=Nat.le_trans (qea i sc) h
theorem qp4 {K:Rl} {S:Sub} {f:Nat} (ih:FormsS K S f) (X:Xe) (G:Gh) (m:Mc) (x:Xs) (sc:Scope) (w:World) (l:List Dt) (ba:Option Addr) (bn bc:Nat) (ids:List (ByteArray×Int)) (na:Option Addr) (nc:Nat) (g:Inv G S m w) (i:XInv K X G S x sc w) (hd:DRow G ba bn bc l) (hmb:membersL l≤1000000000000) (hbn:0<bn)
  (hr:IdRow w na ids) (hrn:∀b,na=some ⟨b,0,none⟩→b<w.heap.size∧LooseX X G b) (hdis:Sc.distinct (ids.map idS)=true) (hn:ids.length≤1000000) (hsc:sc.length+1+f≤1000000000) (hne:(forms S f x (ids.map idS::sc) l).1≠.error 0):
  Calls prog 324 #[bp X.xb,.slice ba bn bc,.slice na ids.length nc] w (BPost K X G S m sc ids.length w (forms S f x (ids.map idS::sc) l)):=by
 obtain⟨L,hL,hLb⟩:=i.bd
 have c3:w.cell? ⟨X.xb,3,none⟩=some (bp X.ab):=by rw [g.cell i.xe];rfl
 have hlo:X.ab<X.lo∧X.bm<X.lo∧X.ab≠X.bm:=⟨(i.lo _ (by simp)).2.2.1,(i.lo _ (by simp)).2.2.1,i.nab.2.2.2.2.1⟩
 refine qp5 X.xb X.ab ba na bn bc ids.length nc w _ c3 ?_
 refine Calls.mono (qsy X (fun j=>spots j sc) L ids na nc sc.length w hL i.ab hr (fun b hb=>?_) hdis hn i.sz.1 (fun j=>qfh j sc i.sz.1) ⟨hlo.1,hlo.2.1,hlo.2.2,i.sl⟩) ?_
 ·obtain⟨_,h⟩:=hrn b hb
  exact⟨fun e=>h.O (by rw [e];simp),fun e=>h.O (by rw [e];simp),fun e=>h.R (hLb b e)⟩
 rintro e w1 ⟨rfl,L1,hm1,hb1,ht1,hab1⟩
 refine⟨rfl,?_⟩
 rw [qg8]at hm1
 have g1:=g.tw i hLb ht1
 have hown1:∀b,b∈own L1→b<w1.heap.size:=fun b hb=>by
  obtain⟨q,hq,he⟩:=List.mem_filterMap.1 hb
  exact((hm1.2.2.1 q hq).lt b he).2
 have i1:XInv K {X with Rw:=fun b=>X.Rw b∨(w.heap.size≤b∧b<w1.heap.size)} G S x (ids.map idS::sc) w1:=
  i.tw g hLb ht1 hm1 (by simpa using hab1) ⟨by simp;omega,fun k hk=>by rcases List.mem_cons.1 hk with rfl|hk;simp;omega;exact i.sz.2 k hk⟩ _ (fun b hb=>hb) (fun b hb=>(hb1 b hb).imp (hLb b) (fun h=>⟨h,hown1 b hb⟩))
 have mx1:Mx X G w {X with Rw:=fun b=>X.Rw b∨(w.heap.size≤b∧b<w1.heap.size)} G w1:=Mx.tw hLb ht1 _ (fun b hb=>hb.imp id And.left)
 generalize hX1:({X with Rw:=fun b=>X.Rw b∨(w.heap.size≤b∧b<w1.heap.size)}:Xe)=X1 at i1 mx1
 have e1:X1.xb=X.xb:=mx1.same.1
 have key:=ih X1 G m x (ids.map idS::sc) w1 l ba bn bc g1 i1 hd hmb (by simp;omega) hne
 rw [e1]at key
 refine Calls.mono key ?_
 rintro e' w2 (⟨vd,x',hv,rfl,hc,hmt⟩|⟨Y,H,exs,x',q,xs,hv,rfl,hxl,hq,hqw,hlq,mx2,g2,i2,hxr⟩)
 ·exact .inl ⟨_,rfl,.inl ⟨vd,x',hv,rfl,hc,by rw [←mx1.same.2.1];exact hmt⟩⟩
 ·have mx12:=mx1.trans mx2
  obtain⟨s1,s2,s3,s4,s5,s6⟩:=mx12.same
  have c3':w2.cell? ⟨X.xb,3,none⟩=some (bp X.ab):=by
   have:=g2.cell i2.xe 3
   rw [s1,s4]at this;exact this
  refine .inr ⟨_,rfl,_,_,_,rfl,c3',?_⟩
  obtain⟨L2,hL2,hLb2⟩:=i2.bd
  have ab2:=i2.ab
  rw [s4,s5]at ab2
  have hloY:Y.ab<Y.lo∧Y.bm<Y.lo∧Y.ab≠Y.bm:=⟨(i2.lo _ (by simp)).2.2.1,(i2.lo _ (by simp)).2.2.1,i2.nab.2.2.2.2.1⟩
  have hr2:IdRow w2 na ids:=hr.keep fun b hb=>((hrn b hb).2.mx mx12 (hrn b hb).1).2
  have hmm2:ScMapF Y (spN (fun j=>spots j sc) (ids.map idS) (sc.length+1)) w2 L2:=by rw [qg8];exact hL2
  have hlv:=qr8 Y (fun j=>spots j sc) L2 ids na nc sc.length w2 hmm2 (by rw [s4,s5];simpa using ab2) hr2 (fun b hb=>by
   obtain⟨h1,_⟩:=(hrn b hb).2.mx mx12 (hrn b hb).1
   exact⟨fun e=>h1.O (by rw [e];simp),fun e=>h1.O (by rw [e];simp),fun e=>h1.R (hLb2 b e)⟩) hdis hn i.sz.1 (fun j=>qfh j sc i.sz.1) ⟨hloY.1,hloY.2.1,hloY.2.2,i2.sl⟩
  rw [s4]at hlv
  refine Calls.mono hlv ?_
  rintro e w3 ⟨rfl,L3,hm3,hb3,ht3,hab3⟩
  refine⟨rfl,?_⟩
  have g3:=g2.tw i2 hLb2 ht3
  have i3:XInv K {Y with Rw:=Y.Rw} H S x' sc w3:=i2.tw g2 hLb2 ht3 hm3 hab3 i.sz _ (fun b hb=>.inl hb) (fun b hb=>hLb2 b (hb3 b hb))
  have mx3:Mx Y H w2 {Y with Rw:=Y.Rw} H w3:=Mx.tw hLb2 ht3 _ (fun b hb=>.inl hb)
  have mx13:Mx X G w Y H w3:=mx12.trans mx3
  have hq3:w3.heap[q]? =some (.cells xs.toArray 241 (0,0)):=by
   rw [ht3.blk (Array.getElem?_eq_some_iff.1 hq).1 (fun e=>hlq.O (by rw [e];simp)) (fun e=>hlq.O (by rw [e];simp)) (fun e=>hlq.R (hLb2 q e))];exact hq
  have g4:=g3.fix ⟨hlq.mu,hlq.F⟩ hlq.I hq3
  have i4:XInv K Y (H.add q (.cells xs.toArray 241 (0,0))) S x' sc w3:=XInv.fix i3 hlq
  have mx4:Mx X G w Y (H.add q (.cells xs.toArray 241 (0,0))) w3:=mx13.fix (Nat.le_trans mx1.size hqw) hlq.I
  have hle:=Gh.le_add (o:=.cells xs.toArray 241 (0,0)) hlq.I
  cases hxr with
  |nil=>simp at hxl;omega
  |cons _ e0 r x0 xr hc0 hs0=>
   have hsq:=qin (S:=S) (m:=m) (sh:=ids.length::shOf sc) r e0 _ w3 x0 xr q 0 bn (x0::xr).toArray g4 (.cons _ _ _ _ _ (by have:=hc0.mono hle;simpa [shOf]using this) (by have:=hs0.mono hle;simpa [shOf]using this)) (Gh.add_at _ _ _) (by simp at hxl;omega) (by obtain⟨es,q1,q2,q3,q4,q5,q6⟩:=hd;simp at hxl;omega) (fun j y hy=>by simpa using hy)
   have hbl:xr.length+1=bn:=by simpa using hxl
   rw [hbl]at hsq
   refine Calls.mono hsq ?_
   rintro e' w4 ⟨H4,v,rfl,hx4,hb4,g5,hsr⟩
   have mv4:Mv _ w3 H4 w4:=Mv.ext hx4 hb4
   exact .inr ⟨v,rfl,.inr ⟨Y,H4,e0::r,x',v,hv,rfl,mx4.mv mv4,g5,i4.mv mv4,hsr⟩⟩
end
section
open Sc
theorem XInv.cell0 {K:Rl} {X Y:Xe} {G H:Gh} {S:Sub} {m:Mc} {x:Xs} {sc:Scope} {w0 w:World} (mx:Mx X G w0 Y H w) (g:Inv H S m w) (i:XInv K Y H S x sc w):w.cell? ⟨X.xb,0,none⟩=some (bp G.mb):=by
 have:=g.cell i.xe 0
 rw [mx.same.1,mx.up.le.mb]at this;exact this
theorem qc8 {K:Rl} {X Y:Xe} {G H:Gh} {S:Sub} {m:Mc} {x':Xs} {sc:Scope} {w w5 w6:World} {rv:Except Nat Ex×Xs} {ex:Ex} {e':Ending} (mx:Mx X G w Y H w5) (hx:XInv K Y H S x' sc w5) (h:Made H S m w5 (shOf sc) ex e' w6) (hrv:rv=(.ok ex,x')):
  ∃v,e'=.returned v∧w6.cell? ⟨X.xb,0,none⟩=some (bp G.mb)∧(∀b,b<w5.heap.size→LooseX Y H b→w6.heap[b]? =w5.heap[b]?)∧XPost K X G S m sc w rv (.returned v) w6:=by
 obtain⟨L,v,rfl,hmv,hi,hc⟩:=h
 have hx6:=hx.mv hmv
 exact⟨v,rfl,hx6.cell0 (mx.mv hmv) hi,fun b hb hl=>hmv.blk hb hl.mu,.inr ⟨Y,L,ex,x',v,hrv,rfl,mx.mv hmv,hi,hx6,hc⟩⟩
theorem lam_eq (S:Sub) (f:Nat) (x:Xs) (sc:Scope) (l body:List Dt):lambda S (f+1) x sc (.list l) body=match parsOf l with
  |none=>(.error 4,x)
  |some is=>match forms S f x (is::sc) body with
   |(.error e,x)=>(.error e,x)
   |(.ok b,x)=>(.ok (.lam is.length false b),x):=by
 unfold lambda parsOf
 simp only
 cases idsOf l with
 |none=>rfl
 |some is=>
  simp only [Option.bind_some]
  by_cases hd:Sc.distinct is=true
  ·simp only [hd,if_true]
   cases forms S f x (is::sc) body with
   |mk r y=>cases r <;> rfl
  ·simp [hd]
theorem lam_eqS (S:Sub) (f:Nat) (x:Xs) (sc:Scope) (t:Bs) (k:Int) (body:List Dt):lambda S (f+1) x sc (.sym t k) body=match forms S f x ([(t,k)]::sc) body with
   |(.error e,x)=>(.error e,x)
   |(.ok b,x)=>(.ok (.lam 1 true b),x):=rfl
theorem qiy {l:List Dt} {is:List Sc.Id} (h:parsOf l=some is):Sc.distinct is=true∧is.length=l.length:=by
 unfold parsOf at h
 cases hi:idsOf l with
 |none=>rw [hi]at h;cases h
 |some js=>
  rw [hi]at h
  simp only [Option.bind_some]at h
  by_cases hd:Sc.distinct js=true
  ·simp [hd]at h;subst h;exact⟨hd,qmf hi⟩
  ·simp [hd]at h
theorem qoz {K:Rl} {X:Xe} {G:Gh} {S:Sub} {m:Mc} {sc:Scope} {w w3:World} {n:Nat} {rb:Bool} {rvb:Except Nat (List Ex)×Xs} {rv:Except Nat Ex×Xs} (hrv:rv=match rvb with|(.error e,x)=>(.error e,x)|(.ok b,x)=>(.ok (.lam n rb b),x)) (hmx:Mx X G w X G w3)
  (F:Nat) (args:Value→Array Value) (hF:∀(_Y:Xe) (H:Gh) (_x':Xs) (exs:List Ex) (v:Value) (w5:World),G.le H→Inv H S m w5→SRep H (n::shOf sc) exs v→Calls prog F (args v) w5 (Made H S m w5 (shOf sc) (.lam n rb exs)))
  {e':Ending} {w4:World} (h:BPost K X G S m sc n w3 rvb e' w4):RetP (fun v w4=>∃kc cc,v=.func (.func kc) #[] cc∧w4.cell? ⟨X.xb,0,none⟩=some (bp G.mb)∧(∀b,b<w3.heap.size→LooseX X G b→w4.heap[b]? =w3.heap[b]?)∧
   ∀w5,Lk w4 w5→Calls prog F (args v) w5 (RetP (fun v w6=>w6.cell? ⟨X.xb,0,none⟩=some (bp G.mb)∧(∀b,b<w3.heap.size→LooseX X G b→w6.heap[b]? =w3.heap[b]?)∧XPost K X G S m sc w rv (.returned v) w6) (XPost K X G S m sc w rv))) (XPost K X G S m sc w rv) e' w4:=by
 rcases h with⟨vd,x',hv,rfl,hc,hmt⟩|⟨Y,H,exs,x',v,hv,rfl,mx,g,i,hsr⟩
 ·exact .inl ⟨_,rfl,.inl ⟨vd,x',by rw [hrv,hv],rfl,hc,hmt⟩⟩
 ·obtain⟨kc,cc,rfl⟩:=hsr.isFunc
  refine .inr ⟨_,rfl,kc,cc,rfl,i.cell0 mx g,fun b hb hl=>(hl.mx mx hb).2,fun w5 hw=>?_⟩
  have g5:=Inv.lk hw g
  have i5:=i.below (bl0 hw)
  have mx5:Mx X G w3 Y H w5:=mx.lk hw
  refine Calls.mono (hF Y H x' exs _ w5 mx.up.le g5 hsr) ?_
  intro e6 w6 h6
  obtain⟨v6,rfl,h1,h2,h3⟩:=qc8 (rv:=rv) (hmx.trans mx5) i5 h6 (by rw [hrv,hv])
  refine .inr ⟨v6,rfl,h1,fun b hb hl=>?_,h3⟩
  obtain⟨q1,q2⟩:=hl.mx mx5 hb
  rw [h2 b (Nat.lt_of_lt_of_le hb mx5.size) q1,q2]
theorem XPost.ends {K:Rl} {X:Xe} {G:Gh} {S:Sub} {m:Mc} {sc:Scope} {w w':World} {rv:Except Nat Ex×Xs} {e:Ending} (h:XPost K X G S m sc w rv e w'):(∃v,e=.returned v)∨(∃ps,e=.panicked ps):=by
 rcases h with⟨_,_,_,rfl,_⟩|⟨_,_,_,_,v,_,rfl,_⟩
 ·exact .inr ⟨_,rfl⟩
 ·exact .inl ⟨_,rfl⟩
theorem qox {K:Rl} {S:Sub} {f:Nat} (ih:FormsS K S f):LambdaS K S (f+1):=by
 intro X G m x sc w p e l a len cap g i hp hd hmb hlen hsc hne
 obtain⟨xk,xn,xtr,xtx,xm,xa,xlen,xcap⟩:=e
 have c0:w.cell? ⟨X.xb,0,none⟩=some (bp G.mb):=i.cell0 (Mx.refl X G w) g
 have hbad:∀rv:Except Nat Ex×Xs,rv=(.error 4,x)→∀w',Below w.heap.size w w'→XPost K X G S m sc w rv (.panicked (stopP (stopV 4))) w':=fun rv h w' hb=>XPost.bad g i h hb
 have nots:xk≠3→xk≠4→lambda S (f+1) x sc p l=(.error 4,x)→Calls prog 293 #[bp X.xb,.agg (Dl.cells ⟨xk,xn,xtr,xtx,xm,xa,xlen,xcap⟩),.slice a len cap] w (XPost K X G S m sc w (lambda S (f+1) x sc p l)):=fun h3 h4 he=>
  qiw X.xb xk xn xtr xtx xm xa xlen xcap a len cap w _ h3 h4 (hbad _ he)
 have list:∀(ps:List Dt),p=.list ps→xk=4→∀es:List Dl,ps.length=es.length→(∀(i:Nat) (d:Dt) (e:Dl),ps[i]? =some d→es[i]? =some e→DRep G d e)→xlen=es.length→xlen≤30000→(∀(i j:Nat) (y:Dl),es[i]? =some y→j<6→∃g o,xa=some ⟨g,o,none⟩∧g<w.heap.size∧w.cell? ⟨g,o+i*6+j,none⟩=y.cells[j]?)→
   Calls prog 293 #[bp X.xb,.agg (Dl.cells ⟨xk,xn,xtr,xtx,xm,xa,xlen,xcap⟩),.slice a len cap] w (XPost K X G S m sc w (lambda S (f+1) x sc p l)):=by
  intro ps hps hk es hl1 hl2 hl3 hl4 hrow
  subst hps
  obtain rfl:xk=4:=hk
  rw [lam_eq]at hne⊢
  refine qhf X.xb G.mb xn xtr xtx xm xa xlen xcap a len cap w _ fun w1 hw1=>?_
  have hb1:Below w.heap.size w w1:=bl1 hw1
  have g1:=g.below hb1
  have i1:=i.below hb1
  refine Calls.mono (qjq ps es xa xlen xcap w1 hl1 hl3 (by omega) (fun i d e h1 h2=>?_) (fun i j y h1 h2=>?_)) ?_
  ·have hdr:=hl2 i d e h1 h2
   cases hdr with
   |num e h=>exact .inr ⟨by omega,nofun⟩
   |bool e h=>exact .inr ⟨by omega,nofun⟩
   |str e h=>exact .inr ⟨by omega,nofun⟩
   |sym e h=>exact .inl ⟨h,rfl⟩
   |nil e h=>exact .inr ⟨by omega,nofun⟩
   |list e h=>exact .inr ⟨by omega,nofun⟩
  ·obtain⟨q,o,h3,h4,h5⟩:=hrow i j y h1 h2
   exact⟨q,o,h3,Nat.lt_of_lt_of_le h4 hb1.size,(hb1.cell (p:=⟨q,o+i*6+j,none⟩) h4).trans h5⟩
  ·rintro e' w2 ⟨hb2,hcase⟩
   have hb12:Below w.heap.size w w2:=hb1.trans (hb2.mono hb1.size)
   cases hpo:parsOf ps with
   |none=>
    rw [hpo]at hcase hne
    subst hcase
    exact .inl ⟨_,rfl,hbad _ rfl w2 hb12⟩
   |some is=>
    rw [hpo]at hcase hne
    obtain⟨na,nc,ids,rfl,hids,hown⟩:=hcase
    obtain⟨hdis,hil⟩:=qiy hpo
    have hidl:ids.length=is.length:=by rw [←hids];simp
    refine .inr ⟨_,rfl,na,is.length,nc,rfl,by omega,(i.below hb12).cell0 (Mx.ofBelow hb12) (g.below hb12),fun w3 hw3=>?_⟩
    have hb3:Below w.heap.size w w3:=hb12.trans ((bl0 hw3).mono hb12.size)
    have g3:=g.below hb3
    have i3:=i.below hb3
    have hown':w2.ownsRow w1.heap.size 382 2 (.slice na ids.length nc) ids.length (idCells ids):=by rw [hidl];exact hown
    have hrow2:IdRow w3 na ids:=(qkq hown').keep fun b _=>by rw [hw3.heap]
    have hloose:∀b,na=some ⟨b,0,none⟩→b<w3.heap.size∧LooseX X G b:=fun b hb=>by
     have h1:=hown'.lt b (by rw [hb];rfl)
     refine⟨by rw [hw3.heap];exact h1.2,LooseX.new g i ?_⟩
     have:=hb1.size
     omega
    have hfne:(forms S f x (is::sc) l).1≠.error 0:=fun h=>by
     apply hne
     simp only
     cases hfr:forms S f x (is::sc) l with
     |mk fr fx=>rw [hfr]at h;have h:fr=.error 0:=h;subst h;rfl
    have key:=qp4 ih X G m x sc w3 l a len cap ids na nc g3 i3 hd hmb hlen hrow2 hloose (by rw [hids];exact hdis) (by omega) (by omega) (by rw [hids];exact hfne)
    rw [hids,hidl]at key
    refine Calls.mono key ?_
    intro e4 w4 h4
    have fin:=qoz (rb:=false) (rv:=match some is with
      |none=>(.error 4,x)
      |some is=>match forms S f x (is::sc) l with
       |(.error e,x)=>(.error e,x)
       |(.ok b,x)=>(.ok (.lam is.length false b),x)) rfl (Mx.ofBelow (X:=X) (G:=G) hb3) 326 (fun v=>#[bp G.mb,.int .i64 (is.length:Int),v]) (fun Y H x' exs v w5 hle hI hs=>by
     have:=qoy (sh:=shOf sc) (n:=is.length) hI hs
     rw [hle.mb]at this;exact this) h4
    rcases fin with⟨ps,rfl,hq⟩|⟨v,rfl,kc,cc,rfl,h1,_,h3⟩
    ·exact .inl ⟨ps,rfl,hq⟩
    ·refine .inr ⟨_,rfl,kc,cc,rfl,h1,fun w5 hw5=>Calls.mono (h3 w5 hw5) ?_⟩
     rintro e6 w6 (⟨ps,rfl,hq⟩|⟨v6,rfl,h5,_,h7⟩)
     ·exact .inl ⟨ps,rfl,hq⟩
     ·exact .inr ⟨v6,rfl,h5,h7⟩
 cases hp with
 |num e h=>exact nots (by have h:xk=0:=h;omega) (by have h:xk=0:=h;omega) rfl
 |bool e h=>exact nots (by have h:xk=1:=h;omega) (by have h:xk=1:=h;omega) rfl
 |str e h=>exact nots (by have h:xk=2:=h;omega) (by have h:xk=2:=h;omega) rfl
 |nil e h hl=>exact list [] rfl h [] rfl (fun i d e h=>by simp at h) hl (by have hl:xlen=0:=hl;omega) (fun i j y h=>by simp at h)
 |list e h ps es gg o arr hl hc hm ha hg hr hs=>
  obtain⟨hs1,hs2⟩:=hs.at
  exact list ps rfl h es hs1 hs2 hl hm fun i' j y hy hj=>⟨gg,o,ha,g.lt hg,by rw [g.cell hg];exact hr i' j y hy hj⟩
 |sym e h hz hc=>
  obtain rfl:xk=3:=h
  rw [lam_eqS]at hne⊢
  refine qiv X.xb G.mb xn xtr xtx xm xa xlen xcap a len cap w _ c0 fun w0 hw0 w2 hb2 w3 hw3=>?_
  have hb0:Below w.heap.size w w0:=bl1 hw0
  have hb02:Below w.heap.size w w2:=hb0.trans (hb2.mono hb0.size)
  have hb3:Below w.heap.size w w3:=hb02.trans ((bl1 hw3).mono hb02.size)
  have g3:=g.below hb3
  have i3:=i.below hb3
  have hnew:w3.heap[w2.heap.size]? =some (.cells #[.string xtx,.int .i64 xm] 382 (0,0)):=by rw [hw3.heap];exact heap_alloc_new _ _
  have hrow:IdRow w3 (some ⟨w2.heap.size,0,none⟩) [(xtx,xm)]:=fun j p hp=>by
   cases j with
   |zero=>
    simp at hp;subst hp
    exact⟨w2.heap.size,rfl,by simp only [World.cell?,hnew];rfl,by simp only [World.cell?,hnew];rfl⟩
   |succ j=>simp at hp
  have hfne:(forms S f x ([(xtx.data.toList,xm)]::sc) l).1≠.error 0:=fun h=>by
   apply hne
   cases hfr:forms S f x ([(xtx.data.toList,xm)]::sc) l with
   |mk fr fx=>rw [hfr]at h;have h:fr=.error 0:=h;subst h;rfl
  have hbox:w3.heap[w.heap.size]? =some (.cells (Dl.cells ⟨3,xn,xtr,xtx,xm,xa,xlen,xcap⟩) 134 (0,0)):=by
   have h0:w0.heap[w.heap.size]? =some (.cells (Dl.cells ⟨3,xn,xtr,xtx,xm,xa,xlen,xcap⟩) 134 (0,0)):=by rw [hw0.heap];exact heap_alloc_new _ _
   have l0:=(Array.getElem?_eq_some_iff.1 h0).1
   rw [(bl1 hw3).block _ (Nat.lt_of_lt_of_le l0 hb2.size),hb2.block _ l0];exact h0
  have key:=qp4 ih X G m x sc w3 l a len cap [(xtx,xm)] (some ⟨w2.heap.size,0,none⟩) 1 g3 i3 hd hmb hlen hrow (fun b hb=>by
   cases hb
   exact⟨(Array.getElem?_eq_some_iff.1 hnew).1,LooseX.new g i hb02.size⟩) rfl (by simp) (by omega) hfne
  refine Calls.mono key ?_
  intro e4 w4 h4
  have fin:=qoz (rb:=true) (rv:=match forms S f x ([(xtx.data.toList,xm)]::sc) l with
   |(.error e,x)=>(.error e,x)
   |(.ok b,x)=>(.ok (.lam 1 true b),x)) rfl (Mx.ofBelow (X:=X) (G:=G) hb3) 323 (fun v=>#[bp G.mb,v]) (fun Y H x' exs v w5 hle hI hs=>by
    have:=qma (sh:=shOf sc) hI hs
    rw [hle.mb]at this;exact this) h4
  have lb:=(Array.getElem?_eq_some_iff.1 hbox).1
  rcases fin with⟨ps,rfl,hq⟩|⟨v,rfl,kc,cc,rfl,h1,h2,h3⟩
  ·exact .inl ⟨ps,rfl,hq⟩
  ·refine .inr ⟨_,rfl,kc,cc,rfl,h1,by rw [h2 _ lb (LooseX.new g i (Nat.le_refl _))];exact hbox,fun w5 hw5=>Calls.mono (h3 w5 hw5) ?_⟩
   rintro e6 w6 (⟨ps,rfl,hq⟩|⟨v6,rfl,h5,h6,h7⟩)
   ·exact .inl ⟨ps,rfl,hq⟩
   ·exact .inr ⟨v6,rfl,h5,by rw [h6 _ lb (LooseX.new g i (Nat.le_refl _))];exact hbox,h7⟩
end
section
open Sc
theorem RetP.imp {P P':Value→World→Prop} {Q Q':Ending→World→Prop} {e:Ending} {w:World} (h:RetP P Q e w) (h1:∀v w,P v w→P' v w) (h2:∀ps w,Q (.panicked ps) w→Q' (.panicked ps) w):RetP P' Q' e w:=by
 rcases h with⟨ps,rfl,h⟩|⟨v,rfl,h⟩
 ·exact .inl ⟨ps,rfl,h2 _ _ h⟩
 ·exact .inr ⟨v,rfl,h1 _ _ h⟩
section
variable {K:Rl} {X Y:Xe} {G H:Gh} {S:Sub} {m:Mc} {x x':Xs} {sc:Scope} {w w2 w3 w4:World}
theorem qkb {n q:Nat} {xs:List Value} (hxl:xs.length=n) (hn:n≤90000) (hq:w2.heap[q]? =some (.cells xs.toArray 241 (0,0))) (hqw:w.heap.size≤q) (hl:LooseX Y H q) (mx:Mx X G w Y H w2) (g:Inv H S m w2) (i:XInv K Y H S x' sc w2):
  H.le (H.add q (.cells xs.toArray 241 (0,0)))∧Inv (H.add q (.cells xs.toArray 241 (0,0))) S m w2∧XInv K Y (H.add q (.cells xs.toArray 241 (0,0))) S x' sc w2∧Mx X G w Y (H.add q (.cells xs.toArray 241 (0,0))) w2∧RowI (H.add q (.cells xs.toArray 241 (0,0))) 241 (.slice (some ⟨q,0,none⟩) n n) xs:=
 ⟨Gh.le_add hl.I,g.fix ⟨hl.mu,hl.F⟩ hl.I hq,XInv.fix i hl,mx.fix hqw hl.I,q,0,n,xs.toArray,by rw [hxl],Gh.add_at _ _ _,by omega,by omega,fun j y hy=>by simpa using hy⟩
theorem rx_of {rv:Except Nat Ex×Xs} {ex:Ex} {e':Ending} (mx:Mx X G w Y H w3) (hx:XInv K Y H S x' sc w3) (h:Made H S m w3 (shOf sc) ex e' w4) (hrv:rv=(.ok ex,x')):RX X.xb G.mb (XPost K X G S m sc w rv) e' w4:=by
 obtain⟨v,rfl,h1,_,h3⟩:=qc8 (rv:=rv) mx hx h hrv
 exact .inr ⟨v,rfl,h1,h3⟩
theorem qn1 {rv:Except Nat Ex×Xs} {ex:Ex} {e':Ending} (mx:Mx X G w Y H w3) (hx:XInv K Y H S x' sc w3) (h:Made H S m w3 (shOf sc) ex e' w4) (hrv:rv=(.ok ex,x')):RQ (XPost K X G S m sc w rv) e' w4:=by
 obtain⟨v,rfl,h1,_,h3⟩:=qc8 (rv:=rv) mx hx h hrv
 exact .inr ⟨v,rfl,h3⟩
theorem XPost.from {rv:Except Nat Ex×Xs} {e':Ending} {w':World} (mx:Mx X G w Y H w2) (h:XPost K Y H S m sc w2 rv e' w'):XPost K X G S m sc w rv e' w':=by
 rcases h with⟨vd,y,h1,rfl,hc,hmt⟩|⟨Z,L,ex,y,v,h1,rfl,h2,h3,h4,h5⟩
 ·exact .inl ⟨vd,y,h1,rfl,hc.up mx.up,by rw [←mx.same.2.1];exact hmt⟩
 ·exact .inr ⟨Z,L,ex,y,v,h1,rfl,mx.trans h2,h3,h4,h5⟩
theorem XPost.rq {rv:Except Nat Ex×Xs} {e':Ending} {w':World} (h:XPost K X G S m sc w rv e' w'):RQ (XPost K X G S m sc w rv) e' w':=RQ.of h h.ends
end
theorem qcc {K:Rl} {X:Xe} {G:Gh} {S:Sub} {m:Mc} {x:Xs} {sc:Scope} {w:World} {d:Dt} {e:Dl} (g:Inv G S m w) (i:XInv K X G S x sc w) (hd:DRep G d e) {s:ByteArray} (hs:s.data.toList=kwN x sc d):∀w',Lk (w.alloc (.cells e.cells 134)) w'→Calls prog 232 #[bp X.xb,.agg e.cells] w' fun e' w2=>e'=.returned (.string s)∧Below w'.heap.size w' w2:=fun w' hw=>by
 have hb:=bl1 hw
 refine Calls.mono (qer (g.below hb) (i.below hb) hd) ?_
 rintro e' w2 ⟨rfl,h⟩
 refine⟨?_,h⟩
 rw [←hs]
theorem qtg {K:Rl} {S:Sub} {f:Nat} (ih:FormsS K S f) (X:Xe) (G:Gh) (m:Mc) (x:Xs) (sc:Scope) (w:World) (l:List Dt) (e:Dl) (g:Inv G S m w) (i:XInv K X G S x sc w) (hd:DRep G (.list l) e) (hmb:membersL l≤1000000000000) (hl:l≠[]) (hkw:kwN x sc (.list l)=[]) (hsc:sc.length+f≤1000000000) (hne:(app S (f+1) x sc l).1≠.error 0):
  Calls prog 297 #[bp X.xb,.agg e.cells] w (XPost K X G S m sc w (app S (f+1) x sc l)):=by
 have hrow:=hd.row
 have hW:=qcc g i hd (s:=⟨#[]⟩) (by rw [hkw])
 obtain⟨xk,xn,xtr,xtx,xm,xa,xlen,xcap⟩:=e
 have hrow:DRow G xa xlen xcap l:=hrow
 obtain⟨n,rfl⟩:∃n,xlen=n+1:=by
  obtain⟨es,h1,_⟩:=hrow
  cases l with
  |nil=>exact absurd rfl hl
  |cons a r=>exact⟨r.length,by simpa using h1⟩
 have hn:n+1≤30000:=by obtain⟨es,h1,h2,h3,h4,h5,h6⟩:=hrow;exact h5
 have happ:app S (f+1) x sc l=match forms S f x sc l with
  |(.ok (e::r),x)=>(.ok (.app e r),x)
  |(.ok [],x)=>(.error 4,x)
  |(.error e,x)=>(.error e,x):=rfl
 have hfne:(forms S f x sc l).1≠.error 0:=fun h=>by
  apply hne
  rw [happ]
  cases hfr:forms S f x sc l with
  |mk fr fx=>rw [hfr]at h;have h:fr=.error 0:=h;subst h;rfl
 refine qjd X.xb G.mb xk xn xtr xtx xm xa n xcap w _ (i.cell0 (Mx.refl X G w) g) (by omega) hW fun w1 hb1=>?_
 have g1:=g.below hb1
 have i1:=i.below hb1
 refine Calls.mono (ih X G m x sc w1 l xa (n+1) xcap g1 i1 hrow hmb hsc hfne) ?_
 rintro e' w2 (⟨vd,x',hv,rfl,hc,hmt⟩|⟨Y,H,exs,x',q,xs,hv,rfl,hxl,hq,hqw,hlq,mx,g2,i2,hxr⟩)
 ·exact .inl ⟨_,rfl,.inl ⟨vd,x',by rw [happ,hv],rfl,hc,hmt⟩⟩
 ·have mx':Mx X G w Y H w2:=(Mx.ofBelow hb1).trans mx
  obtain⟨hle,g3,i3,mx3,hr⟩:=qkb hxl (by omega) hq (Nat.le_trans hb1.size hqw) hlq mx' g2 i2
  refine .inr ⟨_,rfl,some ⟨q,0,none⟩,n+1,n+1,rfl,i2.cell0 mx' g2,fun w3 hw3=>?_⟩
  cases hxr with
  |nil=>simp at hxl
  |cons _ e0 r x0 xr hc0 hs0=>
   have key:=app_mk (sh:=shOf sc) (f:=e0) (l:=r) (Inv.lk hw3 g3) (by rw [hxl];omega) hr (.cons _ _ _ _ _ (hc0.mono hle) (hs0.mono hle))
   have hmb':(H.add q (.cells (x0::xr).toArray 241 (0,0))).mb=G.mb:=mx3.up.le.mb
   rw [hmb']at key
   exact Calls.mono key fun e6 w6 h6=>rx_of (mx3.lk hw3) (i3.below (bl0 hw3)) h6 (by rw [happ,hv])
end
section
open Sc
theorem DRow.cells {G:Gh} {a:Option Addr} {len cap:Nat} {l:List Dt} (h:DRow G a len cap l) (hp:0<len):∃g o,a=some ⟨g,o,none⟩∧(∃arr,G.I g=some (.cells arr 134 (0,0)))∧∀(i:Nat) (d:Dt),l[i]? =some d→∃e:Dl,DRep G d e∧∀(S:Sub) (m:Mc) (w:World),Inv G S m w→∀j,j<6→w.cell? ⟨g,o+i*6+j,none⟩=e.cells[j]?:=by
 obtain⟨es,h1,h2,h3,h4,h5,h6⟩:=h
 obtain⟨g,o,arr,q1,q2,q3⟩:=h6 hp
 obtain⟨ha,hb⟩:=h3.at
 refine⟨g,o,q1,⟨arr,q2⟩,fun i d hd=>?_⟩
 have hi:=(List.getElem?_eq_some_iff.1 hd).1
 have he:es[i]? =some es[i]:=List.getElem?_eq_getElem (by omega)
 exact⟨es[i],hb i d _ hd he,fun S m w g' j hj=>by rw [g'.cell q2];exact q3 i j _ he hj⟩
theorem DsRep.drop {G:Gh}:∀{l:List Dt} {es:List Dl} (k:Nat),DsRep G l es→DsRep G (l.drop k) (es.drop k)
 |_,_,0,h=>h
 |_,_,k+1,.nil=>.nil
 |_,_,k+1,.cons d r e es h hs=>by simpa using DsRep.drop k hs
theorem DRow.drop {G:Gh} {g o len cap:Nat} {l:List Dt} (k:Nat) (h:DRow G (some ⟨g,o,none⟩) len cap l) (hk:k≤len):DRow G (tlD g o cap k) (len-k) (cap-k) (l.drop k):=by
 obtain⟨es,h1,h2,h3,h4,h5,h6⟩:=h
 refine⟨es.drop k,by simp;omega,by simp;omega,h3.drop k,by omega,by omega,fun hp=>?_⟩
 obtain⟨g',o',arr,q1,q2,q3⟩:=h6 (by omega)
 cases q1
 refine⟨g,o+k*6,arr,by unfold tlD;rw [if_neg (by omega)],q2,fun i j x hx hj=>?_⟩
 rw [List.getElem?_drop]at hx
 rw [show o+k*6+i*6+j=o+(k+i)*6+j from by rw [Nat.add_mul];omega]
 exact q3 (k+i) j x hx hj
theorem qgr (xb n xcap:Nat) (xa:Option Addr) (w:World) (Q:Ending→World→Prop) (h3:n≠3) (h4:n≠4)
  (hQ:∀w',Below w.heap.size w w'→Q (.panicked (stopP (stopV 4))) w'):
  Calls prog 335 #[bp xb,.slice xa n xcap] w Q:=by
 have HQ:=hZ hQ
 have e3:((n:Int)==3)=false:=by simp;omega
 have e4:((n:Int)==4)=false:=by simp;omega
 clear hQ
 go_enter func335,ntmps335
 go_wp2_with (first|(go_at_call 290;refine(qax _).mono ?_;rintro e w2 ⟨rfl,o,rfl⟩))
 exact⟨rfl,HQ.out _ (qab _ _)⟩
structure At (K:Rl) (X:Xe) (G:Gh) (S:Sub) (m:Mc) (x:Xs) (sc:Scope) (w:World) (t:Bs) (k:Int) (r:List Dt) (e:Dl):Prop where
 g:Inv G S m w
 i:XInv K X G S x sc w
 d:DRep G (.list (.sym t k::r)) e
 kw:kwN x sc (.list (.sym t k::r))=t
 mb:membersL r≤1000000000000
theorem At.bad {K:Rl} {X:Xe} {G:Gh} {S:Sub} {m:Mc} {x:Xs} {sc:Scope} {w:World} {t:Bs} {k:Int} {r:List Dt} {e:Dl} (A:At K X G S m x sc w t k r e) {rv:Except Nat Ex×Xs} (h:rv=(.error 4,x)):∀w',Below w.heap.size w w'→XPost K X G S m sc w rv (.panicked (stopP (stopV 4))) w':=fun _ hb=>XPost.bad A.g A.i h hb
theorem At.c0 {K:Rl} {X:Xe} {G:Gh} {S:Sub} {m:Mc} {x:Xs} {sc:Scope} {w:World} {t:Bs} {k:Int} {r:List Dt} {e:Dl} (A:At K X G S m x sc w t k r e):w.cell? ⟨X.xb,0,none⟩=some (bp G.mb):=A.i.cell0 (Mx.refl X G w) A.g
theorem qlo {K:Rl} {S:Sub} (f:Nat) (X:Xe) (G:Gh) (m:Mc) (x:Xs) (sc:Scope) (w:World) (k:Int) (r:List Dt) (e:Dl) (A:At K X G S m x sc w [113,117,111,116,101] k r e):
  Calls prog 297 #[bp X.xb,.agg e.cells] w (XPost K X G S m sc w (keyword S (f+1) x sc .quote r)):=by
 have hrow:=A.d.row
 have hW:=qcc A.g A.i A.d (s:=⟨#[113,117,111,116,101]⟩) A.kw.symm
 obtain⟨xk,xn,xtr,xtx,xm,xa,xlen,xcap⟩:=e
 have hrow:DRow G xa xlen xcap (.sym [113,117,111,116,101] k::r):=hrow
 have hlen:xlen=r.length+1:=by obtain⟨es,h1,_⟩:=hrow;simpa using h1
 have hn:xlen≤30000:=by obtain⟨es,h1,h2,h3,h4,h5,h6⟩:=hrow;exact h5
 subst hlen
 have bad:r.length+1≠2→keyword S (f+1) x sc .quote r=(.error 4,x)→Calls prog 297 #[bp X.xb,.agg (Dl.cells ⟨xk,xn,xtr,xtx,xm,xa,r.length+1,xcap⟩)] w (XPost K X G S m sc w (keyword S (f+1) x sc .quote r)):=fun h1 h2=>
  qdn X.xb 0 xk xn xtr xtx xm xa r.length xcap w _ (by omega) h1 hW (A.bad h2)
 match r,A,hrow,hW,hn,bad with
 | [],A,hrow,hW,hn,bad=>exact bad (by simp) rfl
 |a::b::c,A,hrow,hW,hn,bad=>exact bad (by simp) rfl
 | [d],A,hrow,hW,hn,bad=>
  obtain⟨gg,o,rfl,_,hc⟩:=hrow.cells (by simp)
  obtain⟨y,hy,hcy⟩:=hc 1 d rfl
  obtain⟨yk,yn,ytr,ytx,ym,ya,ylen,ycap⟩:=y
  have cell:=hcy S m w A.g
  refine qge X.xb G.mb xk xn xtr xtx xm gg o xcap w _ yk yn ytr ytx ym ya ylen ycap A.c0 (cell 0 (by omega)) (cell 1 (by omega)) (cell 2 (by omega)) (cell 3 (by omega)) (cell 4 (by omega)) (cell 5 (by omega)) hW fun w1 hb1=>?_
  have hmd:members d≤1000000000000:=Nat.le_trans (qca [d] (by simp)) A.mb
  have key:=qky (sh:=shOf sc) (A.g.below hb1) hy hmd
  exact Calls.mono key fun e6 w6 h6=>qn1 (Mx.ofBelow hb1) (A.i.below hb1) h6 rfl
theorem qm4 {K:Rl} {S:Sub} {f:Nat} (ih:FormsS K S f) (X:Xe) (G:Gh) (m:Mc) (x:Xs) (sc:Scope) (w:World) (k:Int) (r:List Dt) (e:Dl) (A:At K X G S m x sc w [98,101,103,105,110] k r e) (hsc:sc.length+f≤1000000000) (hne:(keyword S (f+1) x sc .begin r).1≠.error 0):
  Calls prog 297 #[bp X.xb,.agg e.cells] w (XPost K X G S m sc w (keyword S (f+1) x sc .begin r)):=by
 have hrow:=A.d.row
 have hW:=qcc A.g A.i A.d (s:=⟨#[98,101,103,105,110]⟩) A.kw.symm
 obtain⟨xk,xn,xtr,xtx,xm,xa,xlen,xcap⟩:=e
 have hrow:DRow G xa xlen xcap (.sym [98,101,103,105,110] k::r):=hrow
 have hlen:xlen=r.length+1:=by obtain⟨es,h1,_⟩:=hrow;simpa using h1
 have hn:xlen≤30000:=by obtain⟨es,h1,h2,h3,h4,h5,h6⟩:=hrow;exact h5
 have hcp:xlen≤xcap:=by obtain⟨es,h1,h2,h3,h4,h5,h6⟩:=hrow;exact h4
 subst hlen
 cases r with
 |nil=>exact qdo X.xb 0 xk xn xtr xtx xm xa 0 xcap w _ (by simp at hn;omega) (by omega) hW (A.bad rfl)
 |cons b r=>
  obtain⟨gg,o,rfl,_,_⟩:=hrow.cells (by simp)
  have hdr:=hrow.drop 1 (by simp)
  simp only [List.length_cons,Nat.add_sub_cancel,List.drop_succ_cons,List.drop_zero]at hdr hn hcp
  have hkw:keyword S (f+1) x sc .begin (b::r)=match forms S f x sc (b::r)with
   |(.ok (b::r),x)=>(.ok (.seq b r),x)
   |(.ok [],x)=>(.error 4,x)
   |(.error e,x)=>(.error e,x):=rfl
  have hfne:(forms S f x sc (b::r)).1≠.error 0:=fun h=>by
   apply hne
   rw [hkw]
   cases hfr:forms S f x sc (b::r)with
   |mk fr fx=>rw [hfr]at h;have h:fr=.error 0:=h;subst h;rfl
  refine qgf X.xb G.mb xk xn xtr xtx xm gg o r.length xcap w _ A.c0 (by omega) (by omega) hW fun w1 hb1=>?_
  refine Calls.mono (ih X G m x sc w1 (b::r) _ (r.length+1) _ (A.g.below hb1) (A.i.below hb1) hdr A.mb hsc hfne) ?_
  rintro e' w2 (⟨vd,x',hv,rfl,hc,hmt⟩|⟨Y,H,exs,x',q,xs,hv,rfl,hxl,hq,hqw,hlq,mx,g2,i2,hxr⟩)
  ·exact .inl ⟨_,rfl,.inl ⟨vd,x',by rw [hkw,hv],rfl,hc,hmt⟩⟩
  ·have mx':Mx X G w Y H w2:=(Mx.ofBelow hb1).trans mx
   obtain⟨hle,g3,i3,mx3,hr⟩:=qkb hxl (by omega) hq (Nat.le_trans hb1.size hqw) hlq mx' g2 i2
   refine .inr ⟨_,rfl,_,_,_,rfl,i2.cell0 mx' g2,fun w3 hw3=>?_⟩
   cases hxr with
   |nil=>simp at hxl
   |cons _ e0 r0 x0 xr hc0 hs0=>
    have key:=qtc (sh:=shOf sc) (e:=e0) (l:=r0) (Inv.lk hw3 g3) hr (.cons _ _ _ _ _ (hc0.mono hle) (hs0.mono hle))
    have hmb':(H.add q (.cells (x0::xr).toArray 241 (0,0))).mb=G.mb:=mx3.up.le.mb
    rw [hmb']at key
    exact Calls.mono key fun e6 w6 h6=>rx_of (mx3.lk hw3) (i3.below (bl0 hw3)) h6 (by rw [hkw,hv])
theorem qjh {K:Rl} {S:Sub} {f:Nat} (ih:LambdaS K S f) (X:Xe) (G:Gh) (m:Mc) (x:Xs) (sc:Scope) (w:World) (k:Int) (r:List Dt) (e:Dl) (A:At K X G S m x sc w [108,97,109,98,100,97] k r e) (hsc:sc.length+f≤1000000000) (hne:(keyword S (f+1) x sc .lambda r).1≠.error 0):
  Calls prog 297 #[bp X.xb,.agg e.cells] w (XPost K X G S m sc w (keyword S (f+1) x sc .lambda r)):=by
 have hrow:=A.d.row
 have hW:=qcc A.g A.i A.d (s:=⟨#[108,97,109,98,100,97]⟩) A.kw.symm
 obtain⟨xk,xn,xtr,xtx,xm,xa,xlen,xcap⟩:=e
 have hrow:DRow G xa xlen xcap (.sym [108,97,109,98,100,97] k::r):=hrow
 have hlen:xlen=r.length+1:=by obtain⟨es,h1,_⟩:=hrow;simpa using h1
 have hn:xlen≤30000:=by obtain⟨es,h1,h2,h3,h4,h5,h6⟩:=hrow;exact h5
 have hcp:xlen≤xcap:=by obtain⟨es,h1,h2,h3,h4,h5,h6⟩:=hrow;exact h4
 subst hlen
 have bad:r.length+1<3→keyword S (f+1) x sc .lambda r=(.error 4,x)→Calls prog 297 #[bp X.xb,.agg (Dl.cells ⟨xk,xn,xtr,xtx,xm,xa,r.length+1,xcap⟩)] w (XPost K X G S m sc w (keyword S (f+1) x sc .lambda r)):=fun h1 h2=>
  qda X.xb 0 xk xn xtr xtx xm xa r.length xcap w _ (by omega) h1 hW (A.bad h2)
 match r,A,hrow,hW,hn,hcp,hne,bad with
 | [],A,hrow,hW,hn,hcp,hne,bad=>exact bad (by simp) rfl
 | [a],A,hrow,hW,hn,hcp,hne,bad=>exact bad (by simp) rfl
 |p::b::r,A,hrow,hW,hn,hcp,hne,bad=>
  obtain⟨gg,o,rfl,_,hc⟩:=hrow.cells (by simp)
  obtain⟨y,hy,hcy⟩:=hc 1 p rfl
  obtain⟨yk,yn,ytr,ytx,ym,ya,ylen,ycap⟩:=y
  have cell:=hcy S m w A.g
  have hdr:=hrow.drop 2 (by simp)
  have hlr:(p::b::r).length+1-2=r.length+1:=by simp
  rw [hlr]at hdr
  have hdr:DRow G (tlD gg o xcap 2) (r.length+1) (xcap-2) (b::r):=hdr
  simp only [List.length_cons]at hn hcp
  have hmb:membersL (b::r)≤1000000000000:=by have:=A.mb;simp only [membersL]at this⊢;omega
  refine qe9 X.xb 0 xk xn xtr xtx xm gg o r.length xcap w _ yk yn ytr ytx ym ya ylen ycap (cell 0 (by omega)) (cell 1 (by omega)) (cell 2 (by omega)) (cell 3 (by omega)) (cell 4 (by omega)) (cell 5 (by omega)) (by omega) (by omega) hW fun w1 hb1=>?_
  refine Calls.mono (ih X G m x sc w1 p _ (b::r) _ _ _ (A.g.below hb1) (A.i.below hb1) hy hdr hmb (by omega) hsc hne) ?_
  intro e6 w6 h6
  exact(XPost.from (Mx.ofBelow hb1) h6).rq
end
end Go.Proofs.YtldaocpojcfljaaGreatDoor
